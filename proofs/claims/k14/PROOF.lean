import PyProof.Rows.All
import Wide.All
import OpenK.AllK
import Wide.FinOn
import HandS.ForMost
import HandS.ForExc
import HandS.Wide
import HandS.IsInst
import HandS.Lambda
import HandS.Defaults
import HandS.Evl
import HandS.Codes
import HandS.Style
import HandS.More
import HandS.FStr
import HandS.TryMany
import HandS.ExcField
import HandS.NoneIn
import HandS.ExcInit
import HandS.ExcSuper
import KE.KExcSuper
import KE.KExcInit
import KE.DatumOrd
import HandS.Zip
import HandS.Walk
import HandS.Rev
import HandS.TupAny
import HandS.DictComp
import HandS.CallLocal
import HandS.Star
import HandS.Flow
import HandS.Nested
import HandS.TupMul
import HandS.Head0
import HandS.Head1
import HandS.Head2
import HandS.HeadEnd
import HandS.HeadHook1
import HandS.HeadHook2
import HandS.HeadHook3
import HandS.HeadHook4
import HandS.HeadWalk
import PySem.Challenge.RW_hueshade_k14_whole_floors_of_one_lamp_ea
set_option Elab.async false
set_option linter.all false
set_option maxRecDepth 100000
set_option maxHeartbeats 0
namespace Hs
/-! ### fractions in lowest terms -/
/-- the common part, with the sign of the bottom -/
def sg (a b : Int) : Int := if b < 0 then -(Int.gcd a b : Int) else (Int.gcd a b : Int)
def low (a b : Int) : Int × Int := (a.fdiv (sg a b), b.fdiv (sg a b))
theorem gcd_pos {a b : Int} (h : b ≠ 0) : 0 < Int.gcd a b := Int.gcd_pos_of_ne_zero_right a h
theorem sg_ne {a b : Int} (h : b ≠ 0) : sg a b ≠ 0 := by
  have := gcd_pos (a := a) h
  unfold sg
  split <;> omega
theorem sg_abs {a b : Int} : (sg a b).natAbs = Int.gcd a b := by
  unfold sg
  split <;> omega
theorem sg_dvd_left (a b : Int) : sg a b ∣ a := by
  unfold sg
  split
  · exact Int.neg_dvd.mpr (Int.gcd_dvd_left ..)
  · exact Int.gcd_dvd_left ..
theorem sg_dvd_right (a b : Int) : sg a b ∣ b := by
  unfold sg
  split
  · exact Int.neg_dvd.mpr (Int.gcd_dvd_right ..)
  · exact Int.gcd_dvd_right ..
theorem low_1 (a b : Int) : a = sg a b * (low a b).1 := by
  have h := sg_dvd_left a b
  show a = sg a b * a.fdiv (sg a b)
  rw [Int.fdiv_eq_ediv_of_dvd h, Int.mul_ediv_cancel' h]
theorem low_2 (a b : Int) : b = sg a b * (low a b).2 := by
  have h := sg_dvd_right a b
  show b = sg a b * b.fdiv (sg a b)
  rw [Int.fdiv_eq_ediv_of_dvd h, Int.mul_ediv_cancel' h]
theorem low_of {a b g x y : Int} (h : b ≠ 0) (hg : sg a b = g) (ha : a = g * x) (hb : b = g * y) : low a b = (x, y) := by
  have h1 := low_1 a b
  have h2 := low_2 a b
  have hn : g ≠ 0 := by
    rw [← hg]
    exact sg_ne h
  rw [hg] at h1 h2
  have e1 : (low a b).1 = x := Int.eq_of_mul_eq_mul_left hn (h1.symm.trans ha)
  have e2 : (low a b).2 = y := Int.eq_of_mul_eq_mul_left hn (h2.symm.trans hb)
  rw [← e1, ← e2]
theorem low_pos {a b : Int} (h : b ≠ 0) : 0 < (low a b).2 := by
  have h2 := low_2 a b
  have hp := gcd_pos (a := a) h
  by_cases hb : b < 0
  · have e : sg a b = -(Int.gcd a b : Int) := if_pos hb
    rw [e] at h2
    apply Decidable.byContradiction
    intro hn
    have : 0 ≤ -(Int.gcd a b : Int) * (low a b).2 := by
      have := Int.mul_nonneg_of_nonpos_of_nonpos (a := -(Int.gcd a b : Int)) (b := (low a b).2) (by omega) (by omega)
      exact this
    omega
  · have e : sg a b = (Int.gcd a b : Int) := if_neg hb
    rw [e] at h2
    apply Decidable.byContradiction
    intro hn
    have : (Int.gcd a b : Int) * (low a b).2 ≤ 0 := Int.mul_nonpos_of_nonneg_of_nonpos (by omega) (by omega)
    omega
theorem low_b1 {a b : Int} (h : b ≠ 0) : (low a b).1.natAbs ≤ a.natAbs := by
  have h1 := congrArg Int.natAbs (low_1 a b)
  rw [Int.natAbs_mul, sg_abs] at h1
  rw [h1]
  exact Nat.le_mul_of_pos_left _ (gcd_pos h)
theorem low_b2 {a b : Int} (h : b ≠ 0) : (low a b).2.natAbs ≤ b.natAbs := by
  have h1 := congrArg Int.natAbs (low_2 a b)
  rw [Int.natAbs_mul, sg_abs] at h1
  have h2 := Nat.le_mul_of_pos_left (low a b).2.natAbs (gcd_pos (a := a) h)
  omega
theorem sg_mul {k a b : Int} (hk : k ≠ 0) (h : b ≠ 0) : sg (k * a) (k * b) = k * sg a b := by
  unfold sg
  rw [Int.gcd_mul_left, Int.natCast_mul]
  by_cases h1 : 0 < k
  · have e : (k.natAbs : Int) = k := by omega
    rw [e]
    by_cases h2 : b < 0
    · have : k * b < 0 := Int.mul_neg_of_pos_of_neg h1 h2
      rw [if_pos this, if_pos h2, Int.mul_neg]
    · have : 0 ≤ k * b := Int.mul_nonneg (by omega) (by omega)
      rw [if_neg (by omega), if_neg h2]
  · have e : (k.natAbs : Int) = -k := by omega
    rw [e]
    by_cases h2 : b < 0
    · have : 0 ≤ k * b := Int.mul_nonneg_of_nonpos_of_nonpos (by omega) (by omega)
      rw [if_neg (by omega), if_pos h2, Int.mul_neg, Int.neg_mul]
    · have : k * b < 0 := Int.mul_neg_of_neg_of_pos (by omega) (by omega)
      rw [if_pos this, if_neg h2, Int.neg_mul, Int.neg_neg]
theorem low_scale {k a b : Int} (hk : k ≠ 0) (h : b ≠ 0) : low (k * a) (k * b) = low a b := by
  have hkb : k * b ≠ 0 := Int.mul_ne_zero hk h
  refine low_of hkb (sg_mul hk h) ?_ ?_
  · rw [Int.mul_assoc]
    exact congrArg (k * ·) (low_1 a b)
  · rw [Int.mul_assoc]
    exact congrArg (k * ·) (low_2 a b)
theorem low_one (a : Int) : low a 1 = (a, 1) := by
  have e : sg a 1 = 1 := by
    unfold sg
    rw [if_neg (by decide), Int.gcd_one_right] <;> rfl
  exact low_of (by decide) e (by omega) (by omega)
/-- the middle: the half of a sum in lowest terms -/
theorem low_half {x y : Int} (h : y ≠ 0) : low ((low x y).1 * 1) ((low x y).2 * 2) = low x (2 * y) := by
  have h1 := low_1 x y
  have h2 := low_2 x y
  have hp := low_pos (a := x) h
  have e : low x (2 * y) = low (sg x y * ((low x y).1 * 1)) (sg x y * ((low x y).2 * 2)) := by
    congr 1
    · rw [Int.mul_one]
      exact h1
    · rw [← Int.mul_assoc, ← h2, Int.mul_comm]
  rw [e]
  exact (low_scale (sg_ne h) (by omega)).symm
end Hs
namespace Hs
open PySem PySem.Spec PyProof.Rows L2 Evl
/-! ### own words -/
/-- // by any divisor but nought, below 2 ^ 9000 -/
def CDivG (i j : Int) : Prop := j ≠ 0 ∧ (j.natAbs.log2 < 9000 ∨ i.natAbs.log2 < 13400)
theorem noPylong_x {x y : Int} (h : x.natAbs.log2 < 13400) : Builtin.divisionGoesByPylong x y = false := by
  have key : (if x == 0 then 0 else x.natAbs.log2 / 30 + 1) ≤ 450 := by
    by_cases hx : (x == 0) = true
    · rw [if_pos hx]
      exact Nat.zero_le _
    · rw [if_neg hx]
      omega
  show (decide ((if y == 0 then 0 else y.natAbs.log2 / 30 + 1) > 300) && decide ((if x == 0 then 0 else x.natAbs.log2 / 30 + 1) > (if y == 0 then 0 else y.natAbs.log2 / 30 + 1) + 150)) = false
  generalize (if y == 0 then 0 else y.natAbs.log2 / 30 + 1) = b
  generalize (if x == 0 then 0 else x.natAbs.log2 / 30 + 1) = a at key
  by_cases hb : b > 300
  · rw [decide_eq_false (show ¬ a > b + 150 by omega), Bool.and_false]
  · rw [decide_eq_false hb, Bool.false_and]
theorem op_fdivG {X : Cx} : OpR X (binaryOp .FloorDiv) (rI CDivG fun i j => .int (i.fdiv j)) := opI fun i j _ _ _ _ _ hc q => floordiv_int hc.1 q (.inl (hc.2.elim PyProof.noPylong_of_log2 noPylong_x))
theorem divG {i j : Int} {b : Nat} (h : j ≠ 0) (hb : j.natAbs < 2 ^ b) (h0 : 0 < b) (h9 : b ≤ 9000) : CDivG i j := ⟨h, .inl (Nat.lt_of_lt_of_le (PySem.Flt.log2_lt_of h0 hb) h9)⟩
theorem divX {i j : Int} {b : Nat} (h : j ≠ 0) (hb : i.natAbs < 2 ^ b) (h0 : 0 < b) (h9 : b ≤ 13400) : CDivG i j := ⟨h, .inr (Nat.lt_of_lt_of_le (PySem.Flt.log2_lt_of h0 hb) h9)⟩
theorem mul64 {i j : Int} (ha : i.natAbs < 2 ^ 64) (hb : j.natAbs < 2 ^ 64) : CMulW i j := wide_mul ha hb (by decide) (by decide) (by decide)
theorem modP {i j : Int} (h : 0 < j) : 0 ≤ i.fmod j ∧ i.fmod j < j := by
  rw [Int.fmod_eq_emod_of_nonneg i (Int.le_of_lt h)]
  exact ⟨Int.emod_nonneg i (by omega), Int.emod_lt_of_pos i h⟩
/-- an own def by its promise -/
structure Own (P : Program) (w : World) (K : PySem.W.Frag) (mg : Str → Option Value) (base : Heap) (k : Nat) (x : Str) (ps : List Str) (sp : Sp) : Prop where
  ex : ∃ (f : Addr) (fd : FuncData), FnOk P w K mg base CX0 k f fd ps sp ∧ mg x = some (.ref f) ∧ PySem.W.keepIn K (.ref f) = true ∧ Binds K fd ps []
theorem pe_own {X : Cx} {k j : Nat} {x : Str} {ps : List Str} {sp : Sp} {e : Expr} {es : List Expr} {t : TA} {p pos : Pos} (O : Own X.prog X.w X.K X.mg X.base k x ps sp) (hr : Room j X.A) (hk : k ≤ j) (hg : Gl X x) (ha : PA X (e :: es) t)
    (hdb : (x == ("__debug__" : Str)) = false := by decide) (he : starEach (e :: es) X.env = (false, eval e X.env) :: starEach es X.env := by rfl) (hpl : (backTo pos (starEach es X.env)).any (·.1) = false := by rfl) :
    PE X (.Call (.Name x p) (e :: es) [] pos) (tCall sp [] E0 t) := by
  obtain ⟨f, fd, F, m, kp, b⟩ := O.ex
  exact pe_call F (hr.mono hk) hg m kp b .nil pass0 ha hdb he hpl
abbrev FnP (K : PySem.W.Frag) (x : Str) (st : Stmt) (f : Addr) (fd : FuncData) : Prop := FunD K x x (defArgs st) (defBody st) (defScope st) [] [] f fd
theorem own_of {P : Program} {w : World} {K : PySem.W.Frag} {mg : Str → Option Value} {base : Heap} {k : Nat} {x : Str} {ps : List Str} {sp : Sp} {st : Stmt} {f : Addr} {fd : FuncData} (F : FnP K x st f fd) (m : mg x = some (.ref f)) (G : FnOk P w K mg base CX0 k f fd ps sp)
    (h : ∀ (kV doc pm : Value) (an : Option Addr) (cdv ct : Value) (us : List Value), us.length = ps.length → bindArgs (PySem.W.fnOf x x (defArgs st) (defBody st) (defScope st) .none kV doc pm an cdv ct) ⟨us, []⟩ = pure (ps.zip us)) : Own P w K mg base k x ps sp :=
  ⟨f, fd, G, m, F.kp, F.bindsN h⟩
theorem ev_ix {K : PySem.W.Frag} {σ : L2.St} {H : Hp} {b : Addr} {xs : List V} {i : Int} {v : V} {j : Nat} (hs : σ[j]? = some (some (.ref b))) (hb : H b = some (.lst xs)) (ha : atI xs i = some v) : Ev (tOp (rIxL K) (tVar j) (tC (.int i))) σ H v :=
  ev_op (ev_var hs) ev_c (rv_ixL (sq_of hb) ha)
theorem ev_ixt {K : PySem.W.Frag} {σ : L2.St} {H : Hp} {b : Addr} {xs : List V} {i : Int} {v : V} {j : Nat} (hs : σ[j]? = some (some (.ref b))) (hb : SqT K H b xs) (ha : atI xs i = some v) : Ev (tOp (rIxT K) (tVar j) (tC (.int i))) σ H v :=
  ev_op (ev_var hs) ev_c (rv_ixT hb ha)
theorem ite_T {c : Bool} {A B : Prop} (hc : c = true) (h : A) : if c = true then A else B := by
  rw [if_pos hc]
  exact h
theorem ite_F {c : Bool} {A B : Prop} (hc : c = false) (h : B) : if c = true then A else B := by
  rw [hc, if_neg Bool.false_ne_true]
  exact h
/-! ### the bag that draws -/
structure BagAt (H : Hp) (b l : Addr) (ns : List Int) (n : Nat) : Prop where
  ex : ∃ (i : Nat) (z s : Int) (c : Nat), H b = some (.lst [.ref l, .int i, .int z, .int s, .int c]) ∧ i ≤ ns.length ∧ 0 ≤ s ∧ s < 2147483647 ∧ c ≤ n
  ls : H l = some (.lst (ns.map V.int))
  ne : b ≠ l
/-- all but the object at b stays -/
def But (H H' : Hp) (b : Addr) : Prop := ∀ a o, H a = some o → a ≠ b → H' a = some o
theorem But.refl {H : Hp} {b : Addr} : But H H b := fun _ _ e _ => e
theorem But.trans {H H1 H2 : Hp} {b : Addr} (x : But H H1 b) (y : But H1 H2 b) : But H H2 b := fun a o e n => y a o (x a o e n) n
theorem But.ex {H H1 H2 : Hp} {b : Addr} (x : But H H1 b) (y : Ex H1 H2) : But H H2 b := fun a o e n => y a o (x a o e n)
theorem But.of {H H1 : Hp} {b : Addr} (y : Ex H H1) : But H H1 b := fun a o e _ => y a o e
theorem But.upd {H H1 : Hp} {b : Addr} {u : HO} (x : But H H1 b) : But H (upd H1 b u) b := fun a o e n => by
  rw [upd_ne n]
  exact x a o e n
theorem BagAt.ext {H H1 : Hp} {b l : Addr} {ns : List Int} {n m : Nat} (B : BagAt H b l ns n) (e : Ex H H1) (h : n ≤ m) : BagAt H1 b l ns m := by
  obtain ⟨⟨i, z, s, c, h1, h2, h3, h4, h5⟩, h6, h7⟩ := B
  exact ⟨⟨i, z, s, c, e _ _ h1, h2, h3, h4, Nat.le_trans h5 h⟩, e _ _ h6, h7⟩
def spPull : Sp := fun vs H Q _ => ∃ (b l : Addr) (ns : List Int) (n : Nat) (many : Int), vs = [.ref b, .int many] ∧ BagAt H b l ns n ∧ n < 1000000 ∧ 0 < many ∧ many < 2 ^ 200 ∧
  ∀ (v : Int) (H' : Hp), 0 ≤ v → v < many → BagAt H' b l ns (n + 1) → But H H' b → Q (.int v) H'
def spBag (K : PySem.W.Frag) : Sp := fun vs H Q _ => ∃ (a : Addr) (ns : List Int), vs = [.ref a] ∧ SqL K H a (ns.map V.int) ∧ ns.length ≤ 63 ∧
  ∀ (b l : Addr) (H' : Hp), H b = none → H l = none → BagAt H' b l ns 0 → Ex H H' → Q (.ref b) H'
end Hs
namespace Hs
open PySem
def top (i : Nat) : Stmt := PySem.Challenge.pw_hueshade_k14_whole_floors_of_one_lamp_ea.main.body.getD i (.Pass ⟨0, 0, 0, 0⟩)
end Hs
namespace Hs
open PySem PySem.Spec PyProof.Rows L2 Evl
section
variable {P : Program} {w : World} {K : PySem.W.Frag} {mg : Str → Option Value} {base : Heap} {f : Addr} {fd : FuncData}
abbrev sPull : Stmt := top 105
theorem scPull : FnScope ["_law_bag_here", "_law_many", "_law_cell", "_law_got", "_law_wider"] ["_law_bag_here", "_law_many"] (defScope sPull) := ⟨rfl, rfl, rfl, by decide +kernel, rfl, by decide +kernel, by decide +kernel⟩
theorem ok_pull (F : FnP K "_law_pull" sPull f fd) (g_len : mg "len" = none) : FnOk P w K mg base CX0 1 f fd ["_law_bag_here", "_law_many"] spPull := by
  have nd := scPull.nd
  refine F.ok scPull (fun vs H Q E h => ?_) (fun cdv A outer s H vs Q E hr h => ⟨_, PSs.nox (Evl.pss_cut (ps_if (PW.pt (pw_and (pt_cmpR op_eq (pe_ix (r := rIxL K) ix_list (pv 0) pe_int (fun _ _ => rfl)) pe_int (nomark _)) (pw_and1 (pt_cmpR op_lt (pe_ix (r := rIxL K) ix_list (pv 0) pe_int (fun _ _ => rfl)) (pe_callB (r := Evl.rLenS K) call_len_seq (by rfl) g_len PySem.boot_len (pa_cons (pe_ix (r := rIxL K) ix_list (pv 0) pe_int (fun _ _ => rfl)) pa_nil)) (nomark _))))) (pss_cons (ps_set (i := 2) nd rfl (.inl rfl) (pe_ix (r := rIxL K) ix_list (pe_ix (r := rIxL K) ix_list (pv 0) pe_int (fun _ _ => rfl)) (pe_ix (r := rIxL K) ix_list (pv 0) pe_int (fun _ _ => rfl)) (fun _ _ => rfl)))
  (pss_cons (ps_asg (pe_op op_add (pe_ix (r := rIxL K) ix_list (pv 0) pe_int (fun _ _ => rfl)) pe_int) (pg_sub (pv 0) pe_int set_list))
  (pss_one (ps_if (pt_cmpR op_ge (pv 2) (pe_op op_pow pe_int pe_int) (nomark _)) (pss_one (ps_asg (pv 2) (pg_sub (pv 0) pe_int set_list))) (pss_one (ps_asg (pe_op op_modN (pe_op op_add (pe_op op_add (pe_op op_mulW (pe_ix (r := rIxL K) ix_list (pv 0) pe_int (fun _ _ => rfl)) pe_int) (pe_op op_modN (pv 2) pe_int)) pe_int) pe_int) (pg_sub (pv 0) pe_int set_list))))))) pss_nil)
  (pss_cons (ps_if (pt_cmpR op_gt (pe_ix (r := rIxL K) ix_list (pv 0) pe_int (fun _ _ => rfl)) pe_int (nomark _)) (pss_cons (ps_set (i := 3) nd rfl (.inl rfl) (pe_op op_modN (pe_ix (r := rIxL K) ix_list (pv 0) pe_int (fun _ _ => rfl)) (pv 1)))
  (pss_cons (ps_asg (pe_op Hs.op_fdivG (pe_ix (r := rIxL K) ix_list (pv 0) pe_int (fun _ _ => rfl)) (pv 1)) (pg_sub (pv 0) pe_int set_list))
  (pss_one (ps_ret (pv 3))))) pss_nil)
  (pss_cons (ps_asg (pe_op op_add (pe_ix (r := rIxL K) ix_list (pv 0) pe_int (fun _ _ => rfl)) pe_int) (pg_sub (pv 0) pe_int set_list))
  (pss_cons (ps_set (i := 4) nd rfl (.inl rfl) (pe_op op_add (pe_op op_mulW (pe_ix (r := rIxL K) ix_list (pv 0) pe_int (fun _ _ => rfl)) (pe_ix (r := rIxL K) ix_list (pv 0) pe_int (fun _ _ => rfl))) (pe_op op_mulW (pe_op op_mulW pe_int (pe_ix (r := rIxL K) ix_list (pv 0) pe_int (fun _ _ => rfl))) (pe_op op_add (pe_op op_modN (pe_ix (r := rIxL K) ix_list (pv 0) pe_int (fun _ _ => rfl)) pe_int) pe_int))))
  (pss_cons (ps_asg (pe_op op_modN (pe_op op_add (pe_op op_add (pv 4) (pe_op op_mulW (pe_op op_mulW (pe_ix (r := rIxL K) ix_list (pv 0) pe_int (fun _ _ => rfl)) (pe_ix (r := rIxL K) ix_list (pv 0) pe_int (fun _ _ => rfl))) (pe_ix (r := rIxL K) ix_list (pv 0) pe_int (fun _ _ => rfl)))) pe_int) pe_int) (pg_sub (pv 0) pe_int set_list))
  (pss_one (ps_ret (pe_op op_modN (pe_op op_add (pe_op Hs.op_fdivG (pe_ix (r := rIxL K) ix_list (pv 0) pe_int (fun _ _ => rfl)) pe_int) (pe_op op_mulW (pe_op op_modN (pe_ix (r := rIxL K) ix_list (pv 0) pe_int (fun _ _ => rfl)) pe_int) pe_int)) (pv 1))))))))), ?_⟩)
  · obtain ⟨b, l, ns, n, many, rfl, _⟩ := h
    rfl
  · obtain ⟨b, l, ns, n, many, rfl, B, hn, hm, hm2, k⟩ := h
    obtain ⟨⟨i, z, s0, c, hb, hi, h0, h1, hc⟩, hl, ne⟩ := B
    refine q_cut (M := fun σ' H' => ∃ v2, σ' = [some (.ref b), some (.int many), v2, none, none] ∧ H' l = some (.lst (ns.map V.int)) ∧ But H H' b ∧ ∃ (i : Nat) (z s : Int), H' b = some (.lst [.ref l, .int i, .int z, .int s, .int c]) ∧ i ≤ ns.length ∧ 0 ≤ s ∧ s < 2147483647) ?_ ?_
    · refine s_when (et_and (et_test (ev_op (ev_ix rfl hb rfl) ev_c (rv_eq rfl))) fun _ => et_test (ev_op (ev_ix rfl hb rfl) (ev_len (ev_ix rfl hb rfl) (sq_of hl)) rv_I0)) (fun ht H1 e1 => ?_) (fun ht H1 e1 => ?_)
      · have hlt : (i : Int) < ((ns.map V.int).length : Int) := by
          rw [Bool.and_eq_true] at ht
          exact of_decide_eq_true ht.2
        rw [List.length_map] at hlt
        have hit : i < ns.length := by omega
        have hg : (ns.map V.int)[i]? = some (V.int ns[i]) := by
          rw [List.getElem?_map, List.getElem?_eq_getElem hit] <;> rfl
        refine q_asg (ev_op (ev_ix rfl (e1 _ _ hb) rfl) (ev_ix rfl (e1 _ _ hb) rfl) (rv_ixL (sq_of (e1 _ _ hl)) (atI_nat hg))) fun H2 e2 => ?_
        have e12 := e1.trans e2
        refine q_setL (j := 1) (e12 _ _ hb) (ev_op (ev_ix rfl (e12 _ _ hb) rfl) ev_c rv_I0) (ev_var rfl) ev_c (by simp) fun H3 e3 => ?_
        have hb3 : (upd H3 b (.lst [.ref l, .int ((i : Int) + 1), .int z, .int s0, .int c])) b = some (.lst [.ref l, .int ((i + 1 : Nat) : Int), .int z, .int s0, .int c]) := upd_same
        have hl3 : (upd H3 b (.lst [.ref l, .int ((i : Int) + 1), .int z, .int s0, .int c])) l = some (.lst (ns.map V.int)) := by
          rw [upd_ne (Ne.symm ne)]
          exact (e12.trans e3) _ _ hl
        have bt3 : But H (upd H3 b (.lst [.ref l, .int ((i : Int) + 1), .int z, .int s0, .int c])) b := But.upd (.of (e12.trans e3))
        refine s_if (et_test (ev_op (ev_var rfl) (ev_op ev_c ev_c (rv_I ⟨by decide, by decide, by decide⟩)) rv_I0)) (fun ht2 H4 e4 => ?_) (fun ht2 H4 e4 => ?_)
        · refine s_setL (j := 2) (e4 _ _ hb3) (ev_var rfl) (ev_var rfl) ev_c (by simp) fun H5 e5 => ?_
          refine ⟨_, rfl, ?_, But.upd ((bt3.ex e4).ex e5), i + 1, ns[i], s0, upd_same, hit, h0, h1⟩
          rw [upd_ne (Ne.symm ne)]
          exact (e4.trans e5) _ _ hl3
        · refine s_setL (j := 3) (e4 _ _ hb3) (ev_op (ev_op (ev_op (ev_op (ev_ix rfl (e4 _ _ hb3) rfl) ev_c (rv_I (mul64 (by omega) (by decide)))) (ev_op (ev_var rfl) ev_c (rv_I (show (2147483563 : Int) ≠ 0 by decide))) rv_I0) ev_c rv_I0) ev_c (rv_I (show (2147483629 : Int) ≠ 0 by decide))) (ev_var rfl) ev_c (by simp) fun H5 e5 => ?_
          have hp := modP (i := s0 * 40503 + (ns[i]).fmod 2147483563 + 1) (j := 2147483629) (by decide)
          refine ⟨_, rfl, ?_, But.upd ((bt3.ex e4).ex e5), i + 1, z, _, upd_same, hit, hp.1, by omega⟩
          rw [upd_ne (Ne.symm ne)]
          exact (e4.trans e5) _ _ hl3
      · exact ⟨none, rfl, e1 _ _ hl, .of e1, i, z, s0, e1 _ _ hb, hi, h0, h1⟩
    · rintro σ' H1 ⟨v2, rfl, hl1, bt1, i, z, s0, hb1, hi, h0, h1⟩
      refine q_when (et_test (ev_op (ev_ix rfl hb1 rfl) ev_c rv_I0)) (fun ht H2 e2 => ?_) (fun ht H2 e2 => ?_)
      · refine q_asg (ev_op (ev_ix rfl (e2 _ _ hb1) rfl) (ev_var rfl) (rv_I (show many ≠ 0 by omega))) fun H3 e3 => ?_
        have e23 := e2.trans e3
        refine q_setL (j := 2) (e23 _ _ hb1) (ev_op (ev_ix rfl (e23 _ _ hb1) rfl) (ev_var rfl) (rv_I (divG (b := 200) (by omega) (by omega) (by decide) (by decide)))) (ev_var rfl) ev_c (by simp) fun H4 e4 => ?_
        have hp := modP (i := z) (j := many) hm
        refine s_ret (ev_var rfl) fun H5 e5 => k _ _ hp.1 hp.2 ?_ ((But.upd (bt1.ex (e23.trans e4))).ex e5)
        refine BagAt.ext (n := n + 1) ⟨⟨i, _, s0, c, upd_same, hi, h0, h1, by omega⟩, ?_, ne⟩ e5 (Nat.le_refl _)
        rw [upd_ne (Ne.symm ne)]
        exact (e23.trans e4) _ _ hl1
      · refine q_setL (j := 4) (e2 _ _ hb1) (ev_op (ev_ix rfl (e2 _ _ hb1) rfl) ev_c rv_I0) (ev_var rfl) ev_c (by simp) fun H3 e3 => ?_
        have hb3 : (upd H3 b (.lst [.ref l, .int i, .int z, .int s0, .int ((c : Int) + 1)])) b = some (.lst [.ref l, .int i, .int z, .int s0, .int ((c : Int) + 1)]) := upd_same
        have hl3 : (upd H3 b (.lst [.ref l, .int i, .int z, .int s0, .int ((c : Int) + 1)])) l = some (.lst (ns.map V.int)) := by
          rw [upd_ne (Ne.symm ne)]
          exact (e2.trans e3) _ _ hl1
        have bt3 : But H (upd H3 b (.lst [.ref l, .int i, .int z, .int s0, .int ((c : Int) + 1)])) b := But.upd (bt1.ex (e2.trans e3))
        have hp1 := modP (i := s0) (j := 8191) (by decide)
        refine q_asg (ev_op (ev_op (ev_ix rfl hb3 rfl) (ev_ix rfl hb3 rfl) (rv_I (mul64 (by omega) (by omega)))) (ev_op (ev_op ev_c (ev_ix rfl hb3 rfl) (rv_I (mul64 (by decide) (by omega)))) (ev_op (ev_op (ev_ix rfl hb3 rfl) ev_c (rv_I (show (8191 : Int) ≠ 0 by decide))) ev_c rv_I0) (rv_I (mul64 (by omega) (by omega)))) rv_I0) fun H4 e4 => ?_
        have hcc : ((c : Int) + 1) * ((c : Int) + 1) ≤ 1000000 * 1000000 := Int.mul_le_mul (by omega) (by omega) (by omega) (by decide)
        have hcd : 0 ≤ ((c : Int) + 1) * ((c : Int) + 1) := Int.mul_nonneg (by omega) (by omega)
        refine q_setL (j := 3) (e4 _ _ hb3) (ev_op (ev_op (ev_op (ev_var rfl) (ev_op (ev_op (ev_ix rfl (e4 _ _ hb3) rfl) (ev_ix rfl (e4 _ _ hb3) rfl) (rv_I (mul64 (by omega) (by omega)))) (ev_ix rfl (e4 _ _ hb3) rfl) (rv_I (mul64 (by omega) (by omega)))) rv_I0) ev_c rv_I0) ev_c (rv_I (show (2147483629 : Int) ≠ 0 by decide))) (ev_var rfl) ev_c (by simp) fun H5 e5 => ?_
        generalize hs' : Int.fmod _ 2147483629 = s1
        have hs1 : 0 ≤ s1 ∧ s1 < 2147483629 := by
          rw [← hs']
          exact modP (by decide)
        have hp2 := modP (i := s1) (j := 7919) (by decide)
        refine s_ret (ev_op (ev_op (ev_op (ev_ix rfl upd_same rfl) ev_c (rv_I (divG (b := 64) (by decide) (by decide) (by decide) (by decide)))) (ev_op (ev_op (ev_ix rfl upd_same rfl) ev_c (rv_I (show (7919 : Int) ≠ 0 by decide))) ev_c (rv_I (mul64 (by omega) (by decide)))) rv_I0) (ev_var rfl) (rv_I (show many ≠ 0 by omega))) fun H6 e6 => ?_
        have hp := modP (i := s1.fdiv 71 + s1.fmod 7919 * 37) (j := many) hm
        refine k _ _ hp.1 hp.2 ?_ ((But.upd (bt3.ex (e4.trans e5))).ex e6)
        refine BagAt.ext (n := n + 1) ⟨⟨i, z, s1, c + 1, upd_same, hi, hs1.1, by omega, by omega⟩, ?_, ne⟩ e6 (Nat.le_refl _)
        rw [upd_ne (Ne.symm ne)]
        exact (e4.trans e5) _ _ hl3
end
end Hs
namespace Hs
open PySem PySem.Spec PyProof.Rows L2 Evl
theorem cut63 {xs : List V} (h : xs.length ≤ 63) : cutV xs none (some 63) = xs := by
  have e1 : HT.sIx xs.length 0 none = 0 := rfl
  have e2 : HT.sIx xs.length xs.length (some 63) = xs.length := by
    show min (63 : Int).toNat xs.length = xs.length
    omega
  unfold cutV
  rw [e1, e2, List.drop_zero, Nat.sub_zero, List.take_length]
section
variable {P : Program} {w : World} {K : PySem.W.Frag} {mg : Str → Option Value} {base : Heap} {f : Addr} {fd : FuncData}
abbrev sBag : Stmt := top 104
theorem scBag : FnScope ["_law_script", "_law_salt", "_law_cell"] ["_law_script"] (defScope sBag) := ⟨rfl, rfl, rfl, by decide +kernel, rfl, by decide +kernel, by decide +kernel⟩
theorem ok_bag (F : FnP K "_law_bag" sBag f fd) (g_len : mg "len" = none) (g_list : mg "list" = none) : FnOk P w K mg base CX0 1 f fd ["_law_script"] (spBag K) := by
  have nd := scBag.nd
  refine F.ok scBag (fun vs H Q E h => ?_) (fun cdv A outer s H vs Q E hr h => ⟨_, PSs.nox (pss_cons (ps_set (i := 1) nd rfl (.inl rfl) (pe_op op_add pe_int (pe_callB (r := Evl.rLenS K) call_len_seq (by rfl) g_len PySem.boot_len (pa_cons (pe_slice sl_list (pv 0) po_none (po_some pe_int)) pa_nil))))
  (pss_cons (ps_for PassesOwn.never rfl (pi_list (pe_slice sl_list (pv 0) po_none (po_some pe_int))) (pg_name (i := 2) nd rfl (.inl rfl)) (pss_one (ps_set (i := 1) nd rfl (.inl rfl) (pe_op op_modN (pe_op op_add (pe_op op_add (pe_op op_mulW (pv 1) pe_int) (pe_op op_modN (pv 2) pe_int)) pe_int) pe_int))))
  (pss_one (ps_ret (pe_lst (pa_cons (pe_callTy (r := Evl.rListS K) call_list_of (by rfl) g_list (by decide +kernel) (pa_cons (pe_slice sl_list (pv 0) po_none (po_some pe_int)) pa_nil)) (pa_cons pe_int (pa_cons pe_int (pa_cons (pv 1) (pa_cons pe_int pa_nil)))))))))), ?_⟩)
  · obtain ⟨a, ns, rfl, _⟩ := h
    rfl
  · obtain ⟨a, ns, rfl, hS, hl, k⟩ := h
    have hl2 : (ns.map V.int).length ≤ 63 := by rw [List.length_map]; exact hl
    have sl : ∀ {σ : L2.St} {H' : Hp}, σ[0]? = some (some (.ref a)) → Ex H H' → EvL (tSl (rSlL K) (tVar 0) tNoPart (tPart (tC (.int 63)))) σ H' (ns.map V.int) := fun {σ H'} h0 e => by
      have q := el_sl (K := K) (σ := σ) (H := H') (ev_var h0) eo_none (eo_some (i := 63) ev_c) (ex_l e hS)
      rw [cut63 hl2] at q
      exact q
    refine q_asg (ev_op ev_c (ev_lenN (sl rfl (Ex.refl H))) rv_I0) fun H1 e1 => ?_
    refine q_forNLn (sl rfl e1) (fun p i σ' H' => Ex H H' ∧ H' p = some (.lst (ns.map V.int)) ∧ ∃ (s0 : Int) (v : Option V), σ' = [some (.ref a), some (.int s0), v] ∧ 0 ≤ s0 ∧ s0 < 2147483647) ?_ ?_ ?_ ?_
    · intro p H2 hp e2 h2
      exact ⟨e1.trans e2, h2, _, none, rfl, by omega, by omega⟩
    · rintro p i σ' H' hi ⟨_, h, _⟩
      exact sq_of h
    · rintro p i x σ' H' hx ⟨e, h, s0, v, rfl, h0, h1⟩
      obtain ⟨z, rfl⟩ : ∃ z, x = V.int z := by
        rw [List.getElem?_map] at hx
        cases ez : ns[i]? with
        | none =>
          rw [ez] at hx
          cases hx
        | some z =>
          rw [ez] at hx
          exact ⟨z, (Option.some.inj hx).symm⟩
      refine s_asg (ev_op (ev_op (ev_op (ev_op (ev_var rfl) ev_c (rv_I (mul64 (by omega) (by decide)))) (ev_op (ev_var rfl) ev_c (rv_I (show (2147483629 : Int) ≠ 0 by decide))) rv_I0) ev_c rv_I0) ev_c (rv_I (show (2147483647 : Int) ≠ 0 by decide))) fun H2 e2 => ?_
      have hp := modP (i := s0 * 48271 + z.fmod 2147483629 + 7) (j := 2147483647) (by decide)
      exact ⟨e.trans e2, e2 _ _ h, _, _, rfl, hp.1, hp.2⟩
    · rintro p σ' H' ⟨e, h, s0, v, rfl, h0, h1⟩
      refine sl (σ := [some (.ref a), some (.int s0), v]) rfl e H' (Ex.refl _) _ fun q H2 hq e2 h2 => ⟨q, _, rfl, .inl (sq_of h2), fun l hl3 => ⟨_, rfl, sz_of (by simp), fun b hb3 => ?_⟩⟩
      have hne : l ≠ b := fun z => by
        rw [← z, upd_same] at hb3
        cases hb3
      have e3 : Ex H (upd H2 l (.lst (ns.map V.int))) := (e.trans e2).trans (Ex.new hl3)
      refine k b l _ (fresh_back e3 hb3) (fresh_back (e.trans e2) hl3) ⟨⟨0, 0, s0, 0, upd_same, Nat.zero_le _, h0, h1, Nat.le_refl _⟩, ?_, Ne.symm hne⟩ (e3.trans (Ex.new hb3))
      rw [upd_ne hne, upd_same]
end
end Hs
namespace Hs
open PySem PySem.Spec PyProof.Rows L2 Evl
/-! ### two data alike: the law's own comparison -/
def Sm (K : PySem.W.Frag) (H : Hp) : Nat → V → V → Prop
  | 0, _, _ => False
  | d + 1, u, v => (u = v ∧ flatV u = true) ∨ ∃ (a b : Addr) (xs ys : List V), u = .ref a ∧ v = .ref b ∧ ((SqL K H a xs ∧ SqL K H b ys) ∨ (SqT K H a xs ∧ SqT K H b ys)) ∧ xs.length = ys.length ∧ xs.length ≤ 1000 ∧
      ∀ (i : Nat) (x y : V), xs[i]? = some x → ys[i]? = some y → Sm K H d x y
theorem Sm.ext {K : PySem.W.Frag} {H H' : Hp} (e : Ex H H') : ∀ {d : Nat} {u v : V}, Sm K H d u v → Sm K H' d u v
  | 0, _, _, h => h.elim
  | d + 1, u, v, h => by
    rcases h with h | ⟨a, b, xs, ys, h1, h2, h3, h4, h5, h6⟩
    · exact .inl h
    · refine .inr ⟨a, b, xs, ys, h1, h2, ?_, h4, h5, fun i x y hx hy => Sm.ext e (h6 i x y hx hy)⟩
      rcases h3 with ⟨p, q⟩ | ⟨p, q⟩
      · exact .inl ⟨ex_l e p, ex_l e q⟩
      · exact .inr ⟨ex_t e p, ex_t e q⟩
def spSame (K : PySem.W.Frag) (d : Nat) : Sp := fun vs H Q _ => ∃ u v : V, vs = [u, v] ∧ Sm K H d u v ∧ RetV (.bl true) H Q
/-- of the built-in type t, whatever is new -/
def Ty (K : PySem.W.Frag) (H : Hp) (x : V) (t : String) : Prop := ∀ H1, Ex H H1 → TyX K H1 x (.type t)
theorem ty_l {K : PySem.W.Frag} {H : Hp} {a : Addr} {xs : List V} (h : SqL K H a xs) : Ty K H (.ref a) "list" := fun H1 e => by
  rcases ex_l e h with (h | ⟨o, h⟩) | ⟨o, its, n, h1, h2, _⟩
  · exact .base (.lst h)
  · exact .base (.frz h)
  · exact .kList h1 h2
theorem ty_t {K : PySem.W.Frag} {H : Hp} {a : Addr} {xs : List V} (h : SqT K H a xs) : Ty K H (.ref a) "tuple" := fun H1 e => by
  rcases ex_t e h with (h | ⟨o, h⟩) | ⟨o, its, n, h1, h2, _⟩
  · exact .base (.tup h)
  · exact .fTuple h
  · exact .kTuple h1 h2
theorem ty_bl {K : PySem.W.Frag} {H : Hp} {b : Bool} : Ty K H (.bl b) "bool" := fun _ _ => .base (.bl b)
theorem ty_int {K : PySem.W.Frag} {H : Hp} {b : Int} : Ty K H (.int b) "int" := fun _ _ => .base (.int b)
theorem ty_str {K : PySem.W.Frag} {H : Hp} {b : Str} : Ty K H (.str b) "str" := fun _ _ => .base (.str b)
theorem ev_isi {K : PySem.W.Frag} {σ : L2.St} {H : Hp} {te : TE} {x : V} {t c : String} {b : Bool} (h : Ev te σ H x) (ht : Ty K H x t) (hk : kitB t c = some b) : Ev (tCB (rIsi K) (tCons te (tCons (tC (.ty c)) tNil))) σ H (.bl b) := fun H1 e Q q =>
  h H1 e _ fun H2 e2 => ⟨x, .ty c, .type t, .type c, b, rfl, .ty c, ht H2 (e.trans e2), kit_ty hk, q H2 e2⟩
theorem ev_isi2 {K : PySem.W.Frag} {σ : L2.St} {H : Hp} {te : TE} {x : V} {t c c' : String} {b b' : Bool} (h : Ev te σ H x) (ht : Ty K H x t) (hk : kitB t c = some b) (hk' : kitB t c' = some b') :
    Ev (tCB (rIsiT K) (tCons te (tCons (tTup (tCons (tC (.ty c)) (tCons (tC (.ty c')) tNil))) tNil))) σ H (.bl (b || b')) := fun H1 e Q q =>
  h H1 e _ fun H2 e2 => ⟨sz_of (by simp), fun p hp => ⟨x, p, [.ty c, .ty c'], .type t, [.type c, .type c'], b || b', rfl, upd_same, .cons (.ty c) (.cons (.ty c') .nil), ht _ ((e.trans e2).trans (Ex.new hp)), by
    refine kitAny_cons (kit_ty hk) (fun hb => ?_) (fun hb => by rw [hb] <;> rfl)
    rw [hb, Bool.false_or]
    exact kitAny_cons (kit_ty hk') (fun hb' => by rw [hb']; exact kitAny_nil) (fun hb' => hb'), q _ (e2.trans (Ex.new hp))⟩⟩
theorem rv_ixQ {K : PySem.W.Frag} {H : Hp} {p : Addr} {xs : List V} {i : Int} {v : V} (h : SqL K H p xs ∨ SqT K H p xs) (ha : atI xs i = some v) : RV (rIx K) (.ref p) (.int i) H v := fun H1 e Q q => by
  rcases h with h | h
  · exact .inl (rv_ixL h ha H1 e Q q)
  · exact .inr (.inl (rv_ixT h ha H1 e Q q))
theorem ev_lenQ {K : PySem.W.Frag} {σ : L2.St} {H : Hp} {ta : TE} {p : Addr} {xs : List V} (ha : Ev ta σ H (.ref p)) (h : SqL K H p xs ∨ SqT K H p xs) : Ev (tCB (rLenS K) (tCons ta tNil)) σ H (.int (xs.length : Int)) := fun H1 e Q q =>
  ha H1 e _ fun H2 e2 => ⟨p, xs, rfl, h.imp (fun h => ex_l (e.trans e2) h) (fun h => ex_t (e.trans e2) h), q H2 e2⟩
theorem given_true (n : Nat) : given n (fun _ => true) (fun _ => V.bl true) = (List.replicate n true).map V.bl := by
  induction n with
  | zero => rfl
  | succ n ih =>
    rw [given_yes rfl, ih, List.replicate_succ', List.map_append] <;> rfl
theorem ev_allT {K : PySem.W.Frag} {σ : L2.St} {H : Hp} {te : TE} {n : Nat} (h : EvL te σ H (given n (fun _ => true) (fun _ => V.bl true))) : Ev (tCB (rAll K) (tCons te tNil)) σ H (.bl true) := fun H1 e Q q =>
  h H1 e _ fun p H2 _ e2 h2 => ⟨p, List.replicate n true, rfl, sq_of (by rw [h2, given_true]), by
    have e3 : (List.replicate n true).all id = true := by simp
    rw [e3]
    exact q H2 e2⟩
theorem kb_bool_bool : kitB "bool" "bool" = some true := by decide +kernel
theorem kb_bool_int : kitB "bool" "int" = some true := by decide +kernel
theorem kb_bool_str : kitB "bool" "str" = some false := by decide +kernel
theorem kb_bool_list : kitB "bool" "list" = some false := by decide +kernel
theorem kb_bool_tuple : kitB "bool" "tuple" = some false := by decide +kernel
theorem kb_int_bool : kitB "int" "bool" = some false := by decide +kernel
theorem kb_int_int : kitB "int" "int" = some true := by decide +kernel
theorem kb_int_str : kitB "int" "str" = some false := by decide +kernel
theorem kb_int_list : kitB "int" "list" = some false := by decide +kernel
theorem kb_int_tuple : kitB "int" "tuple" = some false := by decide +kernel
theorem kb_str_bool : kitB "str" "bool" = some false := by decide +kernel
theorem kb_str_int : kitB "str" "int" = some false := by decide +kernel
theorem kb_str_str : kitB "str" "str" = some true := by decide +kernel
theorem kb_str_list : kitB "str" "list" = some false := by decide +kernel
theorem kb_str_tuple : kitB "str" "tuple" = some false := by decide +kernel
theorem kb_list_bool : kitB "list" "bool" = some false := by decide +kernel
theorem kb_list_int : kitB "list" "int" = some false := by decide +kernel
theorem kb_list_str : kitB "list" "str" = some false := by decide +kernel
theorem kb_list_list : kitB "list" "list" = some true := by decide +kernel
theorem kb_list_tuple : kitB "list" "tuple" = some false := by decide +kernel
theorem kb_tuple_bool : kitB "tuple" "bool" = some false := by decide +kernel
theorem kb_tuple_int : kitB "tuple" "int" = some false := by decide +kernel
theorem kb_tuple_str : kitB "tuple" "str" = some false := by decide +kernel
theorem kb_tuple_list : kitB "tuple" "list" = some false := by decide +kernel
theorem kb_tuple_tuple : kitB "tuple" "tuple" = some true := by decide +kernel
section
variable {P : Program} {w : World} {K : PySem.W.Frag} {mg : Str → Option Value} {base : Heap} {f : Addr} {fd : FuncData}
abbrev sSame : Stmt := top 108
theorem scSame : FnScope ["_law_got", "_law_due", "_law_k"] ["_law_got", "_law_due"] (defScope sSame) := ⟨rfl, rfl, rfl, by decide +kernel, rfl, by decide +kernel, by decide +kernel⟩
theorem ok_same (F : FnP K "_law_same" sSame f fd) (m : mg "_law_same" = some (.ref f)) (g_len : mg "len" = none) (g_isinstance : mg "isinstance" = none) (g_bool : mg "bool" = none) (g_int : mg "int" = none) (g_str : mg "str" = none) (g_list : mg "list" = none) (g_tuple : mg "tuple" = none)
    (g_all : mg "all" = none) (g_range : mg "range" = none) : ∀ d, FnOk P w K mg base CX0 d f fd ["_law_got", "_law_due"] (spSame K d)
  | 0 => ⟨fun _ _ _ _ h => by
      obtain ⟨u, v, _, h, _⟩ := h
      exact h.elim, fun _ _ _ _ _ _ _ _ _ _ _ _ _ h => by
      obtain ⟨u, v, _, h, _⟩ := h
      exact h.elim⟩
  | d + 1 => by
    have O__law_same : Own P w K mg base d "_law_same" ["_law_got", "_law_due"] (spSame K d) := own_of F m (ok_same F m g_len g_isinstance g_bool g_int g_str g_list g_tuple g_all g_range d) fun _ _ _ _ _ _ us hl => match us, hl with | [_, _], _ => rfl
    have nd := scSame.nd
    refine F.ok scSame (fun vs H Q E h => ?_) (fun cdv A outer s H vs Q E hr h => ⟨_, PSs.nox (pss_cons (ps_if (PW.pt (pw_or (pt_cmpR op_isN (pv 1) pe_non (nomark _)) (pw_or1 (pt_cmpR op_isN (pv 0) pe_non (nomark _))))) (pss_one (ps_ret (pe_and (pe_cmpR op_isN (pv 1) pe_non (nomark _)) (pe_one (pe_cmpR op_isN (pv 0) pe_non (nomark _)))))) pss_nil)
  (pss_cons (ps_if (PW.pt (pw_or (pt_val (pe_callB (r := rIsi K) call_isi (by rfl) g_isinstance (by decide +kernel) (pa_cons (pv 1) (pa_cons (pe_bltn (v := .ty "bool") (by rfl) g_bool (by decide +kernel) rfl) pa_nil)))) (pw_or1 (pt_val (pe_callB (r := rIsi K) call_isi (by rfl) g_isinstance (by decide +kernel) (pa_cons (pv 0) (pa_cons (pe_bltn (v := .ty "bool") (by rfl) g_bool (by decide +kernel) rfl) pa_nil))))))) (pss_one (ps_ret (pe_and (pe_callB (r := rIsi K) call_isi (by rfl) g_isinstance (by decide +kernel) (pa_cons (pv 1) (pa_cons (pe_bltn (v := .ty "bool") (by rfl) g_bool (by decide +kernel) rfl) pa_nil))) (pe_and (pe_callB (r := rIsi K) call_isi (by rfl) g_isinstance (by decide +kernel) (pa_cons (pv 0) (pa_cons (pe_bltn (v := .ty "bool") (by rfl) g_bool (by decide +kernel) rfl) pa_nil))) (pe_one (pe_cmpR op_eq (pv 0) (pv 1) (nomark _))))))) pss_nil)
  (pss_cons (ps_if (pt_val (pe_callB (r := rIsiT K) call_isiT (by rfl) g_isinstance (by decide +kernel) (pa_cons (pv 1) (pa_cons (pe_tup (pa_cons (pe_bltn (v := .ty "int") (by rfl) g_int (by decide +kernel) rfl) (pa_cons (pe_bltn (v := .ty "str") (by rfl) g_str (by decide +kernel) rfl) pa_nil))) pa_nil)))) (pss_one (ps_ret (pe_and (pe_cmpR op_eq (pe_callB (r := rIsi K) call_isi (by rfl) g_isinstance (by decide +kernel) (pa_cons (pv 0) (pa_cons (pe_bltn (v := .ty "int") (by rfl) g_int (by decide +kernel) rfl) pa_nil))) (pe_callB (r := rIsi K) call_isi (by rfl) g_isinstance (by decide +kernel) (pa_cons (pv 1) (pa_cons (pe_bltn (v := .ty "int") (by rfl) g_int (by decide +kernel) rfl) pa_nil))) (nomark _)) (pe_one (pe_cmpR op_eq (pv 0) (pv 1) (nomark _)))))) pss_nil)
  (pss_cons (ps_if (PW.pt (pw_or (pt_cmpR op_ne (pe_callB (r := rIsi K) call_isi (by rfl) g_isinstance (by decide +kernel) (pa_cons (pv 1) (pa_cons (pe_bltn (v := .ty "list") (by rfl) g_list (by decide +kernel) rfl) pa_nil))) (pe_callB (r := rIsi K) call_isi (by rfl) g_isinstance (by decide +kernel) (pa_cons (pv 0) (pa_cons (pe_bltn (v := .ty "list") (by rfl) g_list (by decide +kernel) rfl) pa_nil))) (nomark _)) (pw_or1 (pt_cmpR op_ne (pe_callB (r := rIsi K) call_isi (by rfl) g_isinstance (by decide +kernel) (pa_cons (pv 1) (pa_cons (pe_bltn (v := .ty "tuple") (by rfl) g_tuple (by decide +kernel) rfl) pa_nil))) (pe_callB (r := rIsi K) call_isi (by rfl) g_isinstance (by decide +kernel) (pa_cons (pv 0) (pa_cons (pe_bltn (v := .ty "tuple") (by rfl) g_tuple (by decide +kernel) rfl) pa_nil))) (nomark _))))) (pss_one (ps_ret pe_bl)) pss_nil)
  (pss_one (ps_ret (pe_and (pe_cmpR op_eq (pe_callB (r := Evl.rLenS K) call_len_seq (by rfl) g_len PySem.boot_len (pa_cons (pv 0) pa_nil)) (pe_callB (r := Evl.rLenS K) call_len_seq (by rfl) g_len PySem.boot_len (pa_cons (pv 1) pa_nil)) (nomark _)) (pe_one (pe_callB (r := rAll K) (cr_all rfl) (by rfl) g_all (by decide +kernel) (pa_cons (pe_lc (own := [("_law_k", 2)]) rfl nd (pi_range1 (by rfl) g_range (pa_cons (pe_callB (r := Evl.rLenS K) call_len_seq (by rfl) g_len PySem.boot_len (pa_cons (pv 1) pa_nil)) pa_nil)) (blkOk_by (N := ["_law_got", "_law_due", "_law_k"]) (sc := defScope (Hs.top 108)) (by decide +kernel)) (fun _ _ _ _ _ => (pg_name (i := 2) nd rfl (Or.inl rfl))) (fun _ _ _ _ _ => pts_nil) (fun _ _ _ _ _ => (Hs.pe_own O__law_same hr (by first | decide | omega) (by rfl) (pa_cons (pe_ix (r := rIx K) ix_seq (pv 0) (pv 2) (fun _ _ => rfl)) (pa_cons (pe_ix (r := rIx K) ix_seq (pv 1) (pv 2) (fun _ _ => rfl)) pa_nil))))) pa_nil)))))))))), ?_⟩)
    · obtain ⟨u, v, rfl, _⟩ := h
      rfl
    · obtain ⟨u, v, rfl, h, k⟩ := h
      rcases h with ⟨rfl, hf⟩ | ⟨a, b, xs, ys, rfl, rfl, hq, hlen, hz, hi⟩
      · cases u with
        | non =>
          refine q_when (et_or (et_test (ev_op (ev_var rfl) ev_c (rv_val fun H1 _ Q q => ⟨rfl, q⟩))) (fun _ => et_test (ev_op (ev_var rfl) ev_c (rv_val fun H1 _ Q q => ⟨rfl, q⟩)))) (fun ht H1 e1 => ?_) (fun ht => by simp at ht)
          exact s_ret (ev_is (ev_andV (ev_op (ev_var rfl) ev_c (rv_val fun H1 _ Q q => ⟨rfl, q⟩)) (fun _ => ev_op (ev_var rfl) ev_c (rv_val fun H1 _ Q q => ⟨rfl, q⟩))) (by simp)) fun H2 e2 => k _ (e1.trans e2)
        | bl y =>
          refine q_when (b := false) (et_is (et_or (et_test (ev_op (ev_var rfl) ev_c (rv_val fun H1 _ Q q => ⟨rfl, q⟩))) (fun _ => et_test (ev_op (ev_var rfl) ev_c (rv_val fun H1 _ Q q => ⟨rfl, q⟩)))) (by simp)) (fun ht => Bool.noConfusion ht) (fun _ H1 e1 => ?_)
          refine q_when (b := true) (et_is (et_or (et_B (ev_isi (ev_var rfl) ty_bl kb_bool_bool)) (fun _ => et_B (ev_isi (ev_var rfl) ty_bl kb_bool_bool))) (by simp)) (fun _ H2 e2 => ?_) (fun ht => Bool.noConfusion ht)
          exact s_ret (ev_is (ev_andV (ev_isi (ev_var rfl) ty_bl kb_bool_bool) (fun _ => ev_andV (ev_isi (ev_var rfl) ty_bl kb_bool_bool) (fun _ => ev_op (ev_var rfl) (ev_var rfl) (rv_eq rfl)))) (by simp)) fun H3 e3 => k _ ((e1.trans e2).trans e3)
        | int i =>
          refine q_when (b := false) (et_is (et_or (et_test (ev_op (ev_var rfl) ev_c (rv_val fun H1 _ Q q => ⟨rfl, q⟩))) (fun _ => et_test (ev_op (ev_var rfl) ev_c (rv_val fun H1 _ Q q => ⟨rfl, q⟩)))) (by simp)) (fun ht => Bool.noConfusion ht) (fun _ H1 e1 => ?_)
          refine q_when (b := false) (et_is (et_or (et_B (ev_isi (ev_var rfl) ty_int kb_int_bool)) (fun _ => et_B (ev_isi (ev_var rfl) ty_int kb_int_bool))) (by simp)) (fun ht => Bool.noConfusion ht) (fun _ H2 e2 => ?_)
          refine q_when (b := true) (et_is (et_B (ev_isi2 (ev_var rfl) ty_int kb_int_int kb_int_str)) (by simp)) (fun _ H3 e3 => ?_) (fun ht => Bool.noConfusion ht)
          exact s_ret (ev_is (ev_andV (ev_op (ev_isi (ev_var rfl) ty_int kb_int_int) (ev_isi (ev_var rfl) ty_int kb_int_int) (rv_eq rfl)) (fun _ => ev_op (ev_var rfl) (ev_var rfl) (rv_eq rfl))) (by simp)) fun H4 e4 => k _ (((e1.trans e2).trans e3).trans e4)
        | str x =>
          refine q_when (b := false) (et_is (et_or (et_test (ev_op (ev_var rfl) ev_c (rv_val fun H1 _ Q q => ⟨rfl, q⟩))) (fun _ => et_test (ev_op (ev_var rfl) ev_c (rv_val fun H1 _ Q q => ⟨rfl, q⟩)))) (by simp)) (fun ht => Bool.noConfusion ht) (fun _ H1 e1 => ?_)
          refine q_when (b := false) (et_is (et_or (et_B (ev_isi (ev_var rfl) ty_str kb_str_bool)) (fun _ => et_B (ev_isi (ev_var rfl) ty_str kb_str_bool))) (by simp)) (fun ht => Bool.noConfusion ht) (fun _ H2 e2 => ?_)
          refine q_when (b := true) (et_is (et_B (ev_isi2 (ev_var rfl) ty_str kb_str_int kb_str_str)) (by simp)) (fun _ H3 e3 => ?_) (fun ht => Bool.noConfusion ht)
          exact s_ret (ev_is (ev_andV (ev_op (ev_isi (ev_var rfl) ty_str kb_str_int) (ev_isi (ev_var rfl) ty_str kb_str_int) (rv_eq rfl)) (fun _ => ev_op (ev_var rfl) (ev_var rfl) (rv_eq rfl))) (by simp)) fun H4 e4 => k _ (((e1.trans e2).trans e3).trans e4)
        | _ => cases hf
      · have ta : ∀ {H' : Hp}, Ex H H' → (Ty K H' (.ref a) "list" ∧ Ty K H' (.ref b) "list") ∨ (Ty K H' (.ref a) "tuple" ∧ Ty K H' (.ref b) "tuple") := fun {H'} e => by
          rcases hq with ⟨p, q⟩ | ⟨p, q⟩
          · exact .inl ⟨ty_l (ex_l e p), ty_l (ex_l e q)⟩
          · exact .inr ⟨ty_t (ex_t e p), ty_t (ex_t e q)⟩
        have qa : ∀ {H' : Hp}, Ex H H' → SqL K H' a xs ∨ SqT K H' a xs := fun {H'} e => hq.imp (fun h => ex_l e h.1) (fun h => ex_t e h.1)
        have qb : ∀ {H' : Hp}, Ex H H' → SqL K H' b ys ∨ SqT K H' b ys := fun {H'} e => hq.imp (fun h => ex_l e h.2) (fun h => ex_t e h.2)
        refine q_when (b := false) (et_is (et_or (et_test (ev_op (ev_var rfl) ev_c (rv_val fun H1 _ Q q => ⟨rfl, q⟩))) (fun _ => et_test (ev_op (ev_var rfl) ev_c (rv_val fun H1 _ Q q => ⟨rfl, q⟩)))) (by simp)) (fun ht => Bool.noConfusion ht) (fun _ H1 e1 => ?_)
        have t2 : ∀ {σ : L2.St} {H' : Hp}, σ[0]? = some (some (.ref a)) → σ[1]? = some (some (.ref b)) → Ex H H' → Ev (tCB (rIsi K) (tCons (tVar 1) (tCons (tC (.ty "bool")) tNil))) σ H' (.bl false) ∧ Ev (tCB (rIsi K) (tCons (tVar 0) (tCons (tC (.ty "bool")) tNil))) σ H' (.bl false) ∧
            Ev (tCB (rIsiT K) (tCons (tVar 1) (tCons (tTup (tCons (tC (.ty "int")) (tCons (tC (.ty "str")) tNil))) tNil))) σ H' (.bl false) ∧
            ∃ b1 b2, Ev (tCB (rIsi K) (tCons (tVar 1) (tCons (tC (.ty "list")) tNil))) σ H' (.bl b1) ∧ Ev (tCB (rIsi K) (tCons (tVar 0) (tCons (tC (.ty "list")) tNil))) σ H' (.bl b1) ∧ Ev (tCB (rIsi K) (tCons (tVar 1) (tCons (tC (.ty "tuple")) tNil))) σ H' (.bl b2) ∧ Ev (tCB (rIsi K) (tCons (tVar 0) (tCons (tC (.ty "tuple")) tNil))) σ H' (.bl b2) := fun {σ H'} h0 h1 e => by
          rcases ta e with ⟨p, q⟩ | ⟨p, q⟩
          · exact ⟨ev_isi (ev_var h1) q kb_list_bool, ev_isi (ev_var h0) p kb_list_bool, ev_isi2 (ev_var h1) q kb_list_int kb_list_str, true, false, ev_isi (ev_var h1) q kb_list_list, ev_isi (ev_var h0) p kb_list_list, ev_isi (ev_var h1) q kb_list_tuple, ev_isi (ev_var h0) p kb_list_tuple⟩
          · exact ⟨ev_isi (ev_var h1) q kb_tuple_bool, ev_isi (ev_var h0) p kb_tuple_bool, ev_isi2 (ev_var h1) q kb_tuple_int kb_tuple_str, false, true, ev_isi (ev_var h1) q kb_tuple_list, ev_isi (ev_var h0) p kb_tuple_list, ev_isi (ev_var h1) q kb_tuple_tuple, ev_isi (ev_var h0) p kb_tuple_tuple⟩
        obtain ⟨i1, i2, _⟩ := t2 (σ := [some (.ref a), some (.ref b), none]) rfl rfl e1
        refine q_when (b := false) (et_is (et_or (et_B i1) (fun _ => et_B i2)) (by simp)) (fun ht => Bool.noConfusion ht) (fun _ H2 e2 => ?_)
        obtain ⟨_, _, i3, _⟩ := t2 (σ := [some (.ref a), some (.ref b), none]) rfl rfl (e1.trans e2)
        refine q_when (b := false) (et_B i3) (fun ht => Bool.noConfusion ht) (fun _ H3 e3 => ?_)
        have e03 := (e1.trans e2).trans e3
        obtain ⟨_, _, _, b1, b2, j1, j2, j3, j4⟩ := t2 (σ := [some (.ref a), some (.ref b), none]) rfl rfl e03
        refine q_when (b := false) (et_is (et_or (et_test (ev_op j1 j2 (rv_ne rfl))) (fun _ => et_test (ev_op j3 j4 (rv_ne rfl)))) (by simp)) (fun ht => Bool.noConfusion ht) (fun _ H4 e4 => ?_)
        have e04 := e03.trans e4
        refine s_ret (ev_is (ev_andV (ev_op (ev_lenQ (ev_var rfl) (qa e04)) (ev_lenQ (ev_var rfl) (qb e04)) (rv_eq rfl)) (fun _ => ev_allT (n := ys.length) ?_)) (by simp [hlen])) fun H5 e5 => k _ (e04.trans e5)
        refine el_lcR1 (n := (ys.length : Int)) (fun _ => true) (fun _ => V.bl true) (ea_cons (ev_lenQ (ev_var rfl) (qb e04)) ea_nil) (by omega) (fun x => rfl) (fun i H6 e6 hi6 H7 e7 Q' q' => q' H7 (Ex.refl H7)) (fun i H6 e6 hi6 _ => ?_)
        have hiy : i < ys.length := by omega
        have hix : i < xs.length := by omega
        have gx : xs[i]? = some xs[i] := List.getElem?_eq_getElem hix
        have gy : ys[i]? = some ys[i] := List.getElem?_eq_getElem hiy
        have e06 := e04.trans e6
        exact ev_call (ea_cons (ev_op (ev_var rfl) (ev_var rfl) (rv_ixQ (qa e06) (atI_nat gx))) (ea_cons (ev_op (ev_var rfl) (ev_var rfl) (rv_ixQ (qb e06) (atI_nat gy))) ea_nil)) fun H7 e7 Q' q' E' => ⟨_, _, rfl, (hi i _ _ gx gy).ext (e06.trans e7), q'⟩
end
end Hs
namespace Hs
open PySem PySem.Spec PyProof.Rows L2 Evl
/-! ### numbers of bounded size -/
def Bd (n : Nat) (i : Int) : Prop := i.natAbs < 2 ^ n
theorem Bd.mono {n m : Nat} {i : Int} (h : Bd n i) (l : n ≤ m) : Bd m i := Nat.lt_of_lt_of_le h (Nat.pow_le_pow_right (by decide) l)
theorem Bd.sub {n : Nat} {i j : Int} (hi : Bd n i) (hj : Bd n j) : Bd (n + 1) (i - j) := by
  unfold Bd at *
  rw [Nat.pow_succ]
  generalize 2 ^ n = N at *
  omega
theorem Bd.add {n : Nat} {i j : Int} (hi : Bd n i) (hj : Bd n j) : Bd (n + 1) (i + j) := by
  unfold Bd at *
  rw [Nat.pow_succ]
  generalize 2 ^ n = N at *
  omega
theorem Bd.neg {n : Nat} {i : Int} (hi : Bd n i) : Bd n (-i) := by
  unfold Bd at *
  omega
theorem Bd.mul {n m : Nat} {i j : Int} (hi : Bd n i) (hj : Bd m j) : Bd (n + m) (i * j) := by
  unfold Bd at *
  rw [Int.natAbs_mul, Nat.pow_add]
  exact Nat.mul_lt_mul'' hi hj
theorem Bd.cmul {n m : Nat} {i j : Int} (hi : Bd n i) (hj : Bd m j) (h : n + m ≤ 90000 := by decide) : CMulW i j := wide_mul (hi.mono (Nat.le_succ _)) (hj.mono (Nat.le_succ _)) (Nat.succ_pos _) (Nat.succ_pos _) (by omega)
theorem Bd.of {n : Nat} {i : Int} (h : i.natAbs < 2 ^ n) : Bd n i := h
/-! ### places, pieces, blocks -/
abbrev Pt := Int × Int
def prV (x : Pt) : List V := [.int x.1, .int x.2]
def RetU (xs : List V) (H : Hp) (Q : VK) : Prop := ∀ p H2, H p = none → Ex H H2 → H2 p = some (.tup xs) → Q (.ref p) H2
theorem RetU.go {xs : List V} {H H' : Hp} {Q : VK} (k : RetU xs H Q) (e : Ex H H') {p : Addr} {H2 : Hp} (hp : H' p = none) (e2 : Ex H' H2) (h : H2 p = some (.tup xs)) : Q (.ref p) H2 := k p H2 (fresh_back e hp) (e.trans e2) h
/-- a place within 2 ^ n -/
def Pl (K : PySem.W.Frag) (n : Nat) (H : Hp) (p : Addr) (x : Pt) : Prop := SqT K H p (prV x) ∧ Bd n x.1 ∧ Bd n x.2
theorem Pl.ext {K : PySem.W.Frag} {n : Nat} {H H' : Hp} {p : Addr} {x : Pt} (h : Pl K n H p x) (e : Ex H H') : Pl K n H' p x := ⟨ex_t e h.1, h.2⟩
def Pc (K : PySem.W.Frag) (n : Nat) (H : Hp) (p : Addr) (x y : Pt) : Prop := ∃ a b, SqT K H p [.ref a, .ref b] ∧ Pl K n H a x ∧ Pl K n H b y
theorem Pc.ext {K : PySem.W.Frag} {n : Nat} {H H' : Hp} {p : Addr} {x y : Pt} (h : Pc K n H p x y) (e : Ex H H') : Pc K n H' p x y := by
  obtain ⟨a, b, h1, h2, h3⟩ := h
  exact ⟨a, b, ex_t e h1, h2.ext e, h3.ext e⟩
structure Blk where
  left : Int
  low : Int
  right : Int
  high : Int
def blV (b : Blk) : List V := [.int b.left, .int b.low, .int b.right, .int b.high]
def BdB (n : Nat) (b : Blk) : Prop := Bd n b.left ∧ Bd n b.low ∧ Bd n b.right ∧ Bd n b.high
def Bl (K : PySem.W.Frag) (n : Nat) (H : Hp) (p : Addr) (b : Blk) : Prop := SqT K H p (blV b) ∧ BdB n b
theorem Bl.ext {K : PySem.W.Frag} {n : Nat} {H H' : Hp} {p : Addr} {x : Blk} (h : Bl K n H p x) (e : Ex H H') : Bl K n H' p x := ⟨ex_t e h.1, h.2⟩
def cross (a b c : Pt) : Int := (b.1 - a.1) * (c.2 - a.2) - (b.2 - a.2) * (c.1 - a.1)
def sgn (i : Int) : Int := if 0 < i then 1 else if i < 0 then -1 else 0
def mn (i j : Int) : Int := if j < i then j else i
def mx (i j : Int) : Int := if j > i then j else i
theorem Bd.mn {n : Nat} {i j : Int} (hi : Bd n i) (hj : Bd n j) : Bd n (mn i j) := by
  unfold Hs.mn
  split
  · exact hj
  · exact hi
theorem Bd.mx {n : Nat} {i j : Int} (hi : Bd n i) (hj : Bd n j) : Bd n (mx i j) := by
  unfold Hs.mx
  split
  · exact hj
  · exact hi
def boxOf (a b : Pt) : Blk := ⟨mn a.1 b.1, mn a.2 b.2, mx a.1 b.1, mx a.2 b.2⟩
def hts (b : Blk) (x : Pt) : List Int := [x.1 - b.left, b.right - x.1, x.2 - b.low, b.high - x.2]
def phts (a b x : Pt) : List Int := cross a b x :: -cross a b x :: hts (boxOf a b) x
theorem box_bd {n : Nat} {a b : Pt} (ha : Bd n a.1 ∧ Bd n a.2) (hb : Bd n b.1 ∧ Bd n b.2) : BdB n (boxOf a b) := ⟨ha.1.mn hb.1, ha.2.mn hb.2, ha.1.mx hb.1, ha.2.mx hb.2⟩
theorem ev_x1 {K : PySem.W.Frag} {σ : L2.St} {H : Hp} {p : Addr} {x : Pt} {n j : Nat} (hs : σ[j]? = some (some (.ref p))) (h : Pl K n H p x) : Ev (tOp (rIxT K) (tVar j) (tC (.int 0))) σ H (.int x.1) := ev_ixt hs h.1 rfl
theorem ev_x2 {K : PySem.W.Frag} {σ : L2.St} {H : Hp} {p : Addr} {x : Pt} {n j : Nat} (hs : σ[j]? = some (some (.ref p))) (h : Pl K n H p x) : Ev (tOp (rIxT K) (tVar j) (tC (.int 1))) σ H (.int x.2) := ev_ixt hs h.1 rfl
theorem ev_min2 {σ : L2.St} {H : Hp} {ta tb : TE} {i j : Int} (ha : Ev ta σ H (.int i)) (hb : Ev tb σ H (.int j)) : Ev (tCB (fun xs H Q => ∃ i j, xs = [.int i, .int j] ∧ Q (.int (if j < i then j else i)) H) (tCons ta (tCons tb tNil))) σ H (.int (mn i j)) := ev_cb (ea_cons ha (ea_cons hb ea_nil)) fun H1 _ Q q => ⟨i, j, rfl, q H1 (Ex.refl H1)⟩
theorem ev_mx2 {σ : L2.St} {H : Hp} {ta tb : TE} {i j : Int} (ha : Ev ta σ H (.int i)) (hb : Ev tb σ H (.int j)) : Ev (tCB (fun xs H Q => ∃ i j, xs = [.int i, .int j] ∧ Q (.int (if j > i then j else i)) H) (tCons ta (tCons tb tNil))) σ H (.int (mx i j)) := ev_cb (ea_cons ha (ea_cons hb ea_nil)) fun H1 _ Q q => ⟨i, j, rfl, q H1 (Ex.refl H1)⟩
/-- calls, by their readings -/
theorem eu_call {σ : L2.St} {H : Hp} {sp : Sp} {dvs vs xs : List V} {E : XK} {ta : TA} (h : EvA ta σ H vs) (hs : ∀ H1, Ex H H1 → ∀ Q : VK, RetU xs H1 Q → ∀ E : XK, sp (vs ++ dvs) H1 Q E) : EvU (tCall sp dvs E ta) σ H xs := fun H1 e Q q =>
  h H1 e _ fun H2 e2 => hs H2 (e.trans e2) Q (fun p H3 hp e3 h3 => q p H3 (fresh_back e2 hp) (e2.trans e3) h3) E
end Hs
namespace Hs
open PySem PySem.Spec PyProof.Rows L2 Evl
/-! ### min of a tuple of numbers -/
def rMinT (K : PySem.W.Frag) : List V → Hp → VK → Prop := fun vs H Q => ∃ (a : Addr) (ns : List Int), vs = [V.ref a] ∧ SqT K H a (ns.map V.int) ∧ 0 < ns.length ∧ ∀ m, m ∈ ns → (∀ y, y ∈ ns → m ≤ y) → Q (.int m) H
theorem minOf_mem : ∀ (xs : List Int) (x : Int), PySem.W.minOf x xs ∈ x :: xs ∧ ∀ y ∈ x :: xs, PySem.W.minOf x xs ≤ y := by
  intro xs
  induction xs with
  | nil =>
    intro x
    exact ⟨List.mem_singleton.mpr rfl, fun y hy => by rw [List.mem_singleton.mp hy]; exact Int.le_refl _⟩
  | cons z zs ih =>
    intro x
    have e : PySem.W.minOf x (z :: zs) = PySem.W.minOf (if decide (z < x) = true then z else x) zs := rfl
    obtain ⟨h1, h2⟩ := ih (if decide (z < x) = true then z else x)
    rw [e]
    generalize PySem.W.minOf (if decide (z < x) = true then z else x) zs = m at h1 h2 ⊢
    have h3 := h2 _ (List.mem_cons_self ..)
    refine ⟨?_, fun y hy => ?_⟩
    · rcases List.mem_cons.mp h1 with q | q
      · rw [q]
        split
        · exact List.mem_cons_of_mem _ (List.mem_cons_self ..)
        · exact List.mem_cons_self ..
      · exact List.mem_cons_of_mem _ (List.mem_cons_of_mem _ q)
    · have h4 : m ≤ x ∧ m ≤ z := by
        split at h3
        · rename_i q
          have := of_decide_eq_true q
          omega
        · rename_i q
          have : ¬ z < x := fun w => q (decide_eq_true w)
          omega
      rcases List.mem_cons.mp hy with q | q
      · rw [q]
        exact h4.1
      · rcases List.mem_cons.mp q with q | q
        · rw [q]
          exact h4.2
        · exact h2 y (List.mem_cons_of_mem _ q)
theorem hold_ints {h : Heap} : ∀ {ns : List Int} {its : List Value}, Vals (ns.map V.int) its → PySem.W.HoldAll h its ns
  | [], _, r => by
    cases r
    exact .nil
  | n :: ns, _, r => by
    cases r with
    | cons r rr =>
      obtain ⟨t, rfl⟩ := r
      exact .cons (PySem.W.holds_int n t) (hold_ints rr)
theorem cr_minT {X : Cx} {k : Nat} (hc : X.calm = true) (hr : Room k X.A) : CallR X (.builtin "min") (rMinT X.K) := by
  intro pins s σ H vs us Q I r h
  obtain ⟨a, ns, rfl, hs, hne, q⟩ := h
  obtain ⟨its, rv, hl, _⟩ := I.tuple hs
  rw [Vals.ref1 r]
  cases ns with
  | nil => cases hne
  | cons x xs =>
    refine PySem.W.min_tuple_datum (x := x) (xs := xs) (I.ok.hd hc) (show s.heap.IsTuple a its.toArray from hl) (by simpa using hold_ints rv) ?_ fun i v h' tk hv hh hk => ?_
    · have := hr.un
      show X.A.units + 1 + 0 < _
      omega
    · obtain ⟨t, rfl⟩ := PySem.W.int_of_holds hh
      obtain ⟨m1, m2⟩ := minOf_mem xs x
      exact ⟨.int _, H, I.kept hk, ⟨_, rfl⟩, q _ m1 m2⟩
theorem rc_minT {K : PySem.W.Frag} {H : Hp} {a : Addr} {ns : List Int} (h : SqT K H a (ns.map V.int)) (hn : 0 < ns.length) : ∃ m, m ∈ ns ∧ (∀ y, y ∈ ns → m ≤ y) ∧ RC (rMinT K) [.ref a] H (.int m) := by
  cases ns with
  | nil => cases hn
  | cons x xs =>
    obtain ⟨m1, m2⟩ := minOf_mem xs x
    refine ⟨_, m1, m2, fun H1 e Q q => ⟨a, _, rfl, ex_t e h, hn, fun m h1 h2 => ?_⟩⟩
    have e : m = PySem.W.minOf x xs := Int.le_antisymm (h2 _ m1) (m2 _ h1)
    rw [e]
    exact q H1 (Ex.refl H1)
end Hs
namespace Hs
open PySem PySem.Spec PyProof.Rows L2 Evl
def spCross (K : PySem.W.Frag) (n : Nat) : Sp := fun vs H Q _ => ∃ p q r x y z, vs = [.ref p, .ref q, .ref r] ∧ Pl K n H p x ∧ Pl K n H q y ∧ Pl K n H r z ∧ RetV (.int (cross x y z)) H Q
def spSide (K : PySem.W.Frag) (n : Nat) : Sp := fun vs H Q _ => ∃ p q r x y z, vs = [.ref p, .ref q, .ref r] ∧ Pl K n H p x ∧ Pl K n H q y ∧ Pl K n H r z ∧ RetV (.int (sgn (cross x y z))) H Q
def spBox (K : PySem.W.Frag) (n : Nat) : Sp := fun vs H Q _ => ∃ p x y, vs = [.ref p] ∧ Pc K n H p x y ∧ RetU (blV (boxOf x y)) H Q
def spHts (K : PySem.W.Frag) (n : Nat) : Sp := fun vs H Q _ => ∃ p q b x, vs = [.ref p, .ref q] ∧ Bl K n H p b ∧ Pl K n H q x ∧ RetU ((hts b x).map V.int) H Q
def spPhts (K : PySem.W.Frag) (n : Nat) : Sp := fun vs H Q _ => ∃ p q a b x, vs = [.ref p, .ref q] ∧ Pc K n H p a b ∧ Pl K n H q x ∧ RetU ((phts a b x).map V.int) H Q
/-- whether x is a point of the piece from a to b -/
def OnP (a b x : Pt) : Prop := cross a b x = 0 ∧ mn a.1 b.1 ≤ x.1 ∧ x.1 ≤ mx a.1 b.1 ∧ mn a.2 b.2 ≤ x.2 ∧ x.2 ≤ mx a.2 b.2
instance (a b x : Pt) : Decidable (OnP a b x) := by
  unfold OnP
  infer_instance
theorem cmul {n : Nat} {x y z u : Int} (hn : n ≤ 10000) (h1 : Bd n x) (h2 : Bd n y) (h3 : Bd n z) (h4 : Bd n u) : CMulW (x - y) (z - u) := Bd.cmul (h1.sub h2) (h3.sub h4) (by omega)
section
variable {P : Program} {w : World} {K : PySem.W.Frag} {mg : Str → Option Value} {base : Heap} {f : Addr} {fd : FuncData} {n : Nat}
abbrev sLean : Stmt := top 23
theorem scLean : FnScope ["one", "other", "place", "across", "up"] ["one", "other", "place"] (defScope sLean) := ⟨rfl, rfl, rfl, by decide +kernel, rfl, by decide +kernel, by decide +kernel⟩
theorem ok_lean (F : FnP K "lean" sLean f fd) (hn : n ≤ 10000) : FnOk P w K mg base CX0 1 f fd ["one", "other", "place"] (spCross K n) := by
  have nd := scLean.nd
  refine F.ok scLean (fun vs H Q E h => ?_) (fun cdv A outer s H vs Q E hr h => ⟨_, PSs.nox (pss_cons (ps_set (i := 3) nd rfl (.inl rfl) (pe_op op_sub (pe_ix (r := rIxT K) ix_tup (pv 1) pe_int (fun _ _ => rfl)) (pe_ix (r := rIxT K) ix_tup (pv 0) pe_int (fun _ _ => rfl))))
  (pss_cons (ps_set (i := 4) nd rfl (.inl rfl) (pe_op op_sub (pe_ix (r := rIxT K) ix_tup (pv 1) pe_int (fun _ _ => rfl)) (pe_ix (r := rIxT K) ix_tup (pv 0) pe_int (fun _ _ => rfl))))
  (pss_one (ps_ret (pe_op op_sub (pe_op op_mulW (pv 3) (pe_op op_sub (pe_ix (r := rIxT K) ix_tup (pv 2) pe_int (fun _ _ => rfl)) (pe_ix (r := rIxT K) ix_tup (pv 0) pe_int (fun _ _ => rfl)))) (pe_op op_mulW (pv 4) (pe_op op_sub (pe_ix (r := rIxT K) ix_tup (pv 2) pe_int (fun _ _ => rfl)) (pe_ix (r := rIxT K) ix_tup (pv 0) pe_int (fun _ _ => rfl))))))))), ?_⟩)
  · obtain ⟨p, q, r, x, y, z, rfl, _⟩ := h
    rfl
  · obtain ⟨p, q, r, x, y, z, rfl, hx, hy, hz, k⟩ := h
    refine q_asg (ev_op (ev_x1 rfl hy) (ev_x1 rfl hx) rv_I0) fun H1 e1 => ?_
    refine q_asg (ev_op (ev_x2 rfl (hy.ext e1)) (ev_x2 rfl (hx.ext e1)) rv_I0) fun H2 e2 => ?_
    have e12 := e1.trans e2
    exact s_ret (ev_op (ev_op (ev_var rfl) (ev_op (ev_x2 rfl (hz.ext e12)) (ev_x2 rfl (hx.ext e12)) rv_I0) (rv_I (cmul hn hy.2.1 hx.2.1 hz.2.2 hx.2.2))) (ev_op (ev_var rfl) (ev_op (ev_x1 rfl (hz.ext e12)) (ev_x1 rfl (hx.ext e12)) rv_I0) (rv_I (cmul hn hy.2.2 hx.2.2 hz.2.1 hx.2.1))) rv_I0) fun H3 e3 => k _ (e12.trans e3)
abbrev sSide : Stmt := top 24
theorem scSide : FnScope ["one", "other", "place", "worth"] ["one", "other", "place"] (defScope sSide) := ⟨rfl, rfl, rfl, by decide +kernel, rfl, by decide +kernel, by decide +kernel⟩
theorem ok_side (F : FnP K "side" sSide f fd) (O_lean : Own P w K mg base 1 "lean" ["one", "other", "place"] (spCross K n)) : FnOk P w K mg base CX0 2 f fd ["one", "other", "place"] (spSide K n) := by
  have nd := scSide.nd
  refine F.ok scSide (fun vs H Q E h => ?_) (fun cdv A outer s H vs Q E hr h => ⟨_, PSs.nox (pss_cons (ps_set (i := 3) nd rfl (.inl rfl) (Hs.pe_own O_lean hr (by first | decide | omega) (by rfl) (pa_cons (pv 0) (pa_cons (pv 1) (pa_cons (pv 2) pa_nil)))))
  (pss_cons (ps_if (pt_cmpR op_gt (pv 3) pe_int (nomark _)) (pss_one (ps_ret pe_int)) pss_nil)
  (pss_cons (ps_if (pt_cmpR op_lt (pv 3) pe_int (nomark _)) (pss_one (ps_ret (pe_un un_neg pe_int))) pss_nil)
  (pss_one (ps_ret pe_int))))), ?_⟩)
  · obtain ⟨p, q, r, x, y, z, rfl, _⟩ := h
    rfl
  · obtain ⟨p, q, r, x, y, z, rfl, hx, hy, hz, k⟩ := h
    refine q_asg (ev_call (ea_cons (ev_var rfl) (ea_cons (ev_var rfl) (ea_cons (ev_var rfl) ea_nil))) fun H1 e1 Q' q' E' => ⟨p, q, r, x, y, z, rfl, hx.ext e1, hy.ext e1, hz.ext e1, q'⟩) fun H1 e1 => ?_
    unfold sgn at k
    refine q_when (et_test (ev_op (ev_var rfl) ev_c rv_I0)) (fun ht H2 e2 => ?_) (fun ht H2 e2 => ?_)
    · rw [if_pos (of_decide_eq_true ht)] at k
      exact s_ret ev_c fun H3 e3 => k _ ((e1.trans e2).trans e3)
    · rw [if_neg (of_decide_eq_false ht)] at k
      refine q_when (et_test (ev_op (ev_var rfl) ev_c rv_I0)) (fun ht H3 e3 => ?_) (fun ht H3 e3 => ?_)
      · rw [if_pos (of_decide_eq_true ht)] at k
        exact s_ret (ev_un ev_c ru_neg) fun H4 e4 => k _ (((e1.trans e2).trans e3).trans e4)
      · rw [if_neg (of_decide_eq_false ht)] at k
        exact s_ret ev_c fun H4 e4 => k _ (((e1.trans e2).trans e3).trans e4)
abbrev sBox : Stmt := top 25
theorem scBox : FnScope ["piece", "across", "up", "other_across", "other_up"] ["piece"] (defScope sBox) := ⟨rfl, rfl, rfl, by decide +kernel, rfl, by decide +kernel, by decide +kernel⟩
theorem ok_box (F : FnP K "box_around" sBox f fd) (g_min : mg "min" = none) (g_max : mg "max" = none) : FnOk P w K mg base CX0 1 f fd ["piece"] (spBox K n) := by
  have nd := scBox.nd
  refine F.ok scBox (fun vs H Q E h => ?_) (fun cdv A outer s H vs Q E hr h => ⟨_, PSs.nox (pss_cons (ps_asg (pv 0) (pg_tup rfl (pgs_cons (pg_tup rfl (pgs_cons (pg_name (i := 1) nd rfl (.inl rfl)) (pgs_cons (pg_name (i := 2) nd rfl (.inl rfl)) pgs_nil))) (pgs_cons (pg_tup rfl (pgs_cons (pg_name (i := 3) nd rfl (.inl rfl)) (pgs_cons (pg_name (i := 4) nd rfl (.inl rfl)) pgs_nil))) pgs_nil))))
  (pss_one (ps_ret (pe_tup (pa_cons (pe_callB (call_min2 rfl) (by rfl) g_min (by decide +kernel) (pa_cons (pv 1) (pa_cons (pv 3) pa_nil))) (pa_cons (pe_callB (call_min2 rfl) (by rfl) g_min (by decide +kernel) (pa_cons (pv 2) (pa_cons (pv 4) pa_nil))) (pa_cons (pe_callB (call_max2 rfl) (by rfl) g_max (by decide +kernel) (pa_cons (pv 1) (pa_cons (pv 3) pa_nil))) (pa_cons (pe_callB (call_max2 rfl) (by rfl) g_max (by decide +kernel) (pa_cons (pv 2) (pa_cons (pv 4) pa_nil))) pa_nil)))))))), ?_⟩)
  · obtain ⟨p, x, y, rfl, _⟩ := h
    rfl
  · obtain ⟨p, x, y, rfl, ⟨a, b, hp, hx, hy⟩, k⟩ := h
    refine ⟨_, rfl, p, _, rfl, hp, rfl, _, _, rfl, ⟨a, _, rfl, hx.1, rfl, _, _, rfl, _, _, rfl, rfl, _, _, rfl, b, _, rfl, hy.1, rfl, _, _, rfl, _, _, rfl, rfl, rfl, ?_⟩⟩
    exact s_retU (eu_tup (ea_cons (ev_min2 (ev_var rfl) (ev_var rfl)) (ea_cons (ev_min2 (ev_var rfl) (ev_var rfl)) (ea_cons (ev_mx2 (ev_var rfl) (ev_var rfl)) (ea_cons (ev_mx2 (ev_var rfl) (ev_var rfl)) ea_nil)))) (by simp)) fun p H3 hp e3 h3 => k p H3 hp e3 h3
end
end Hs
namespace Hs
open PySem PySem.Spec PyProof.Rows L2 Evl
/-! ### what is drawn: a grid, places on it -/
theorem bag_ne {H : Hp} {b l p : Addr} {ns : List Int} {n : Nat} (B : BagAt H b l ns n) (hp : H p = none) : p ≠ b := fun z => by
  obtain ⟨i, y, s, c, h, _⟩ := B.ex
  rw [← z, hp] at h
  cases h
theorem bag_lst {H : Hp} {b l : Addr} {ns : List Int} {n : Nat} (B : BagAt H b l ns n) : ∃ xs, H b = some (.lst xs) := by
  obtain ⟨⟨i, z, s, c, h1, _⟩, _⟩ := B
  exact ⟨_, h1⟩
theorem bag_upd {H : Hp} {b l a : Addr} {ns : List Int} {n : Nat} {o : HO} (B : BagAt H b l ns n) (h1 : b ≠ a) (h2 : l ≠ a) : BagAt (upd H a o) b l ns n := by
  obtain ⟨⟨i, z, s, c, q1, q2, q3, q4, q5⟩, q6, q7⟩ := B
  exact ⟨⟨i, z, s, c, by rw [upd_ne h1]; exact q1, q2, q3, q4, q5⟩, by rw [upd_ne h2]; exact q6, q7⟩
theorem But.fresh {H H' : Hp} {b l p : Addr} {ns : List Int} {n : Nat} (k : But H H' b) (B : BagAt H' b l ns n) (hp : H' p = none) : H p = none := by
  cases h : H p with
  | none => rfl
  | some o =>
    have := k p o h (bag_ne B hp)
    rw [hp] at this
    cases this
theorem But.tup {H H' : Hp} {b l p : Addr} {ns : List Int} {n : Nat} {xs : List V} (k : But H H' b) (B : BagAt H b l ns n) (h : H p = some (.tup xs)) : H' p = some (.tup xs) := by
  obtain ⟨ys, hb⟩ := bag_lst B
  refine k _ _ h fun z => ?_
  rw [z, hb] at h
  cases h
def Grid (w x y : Int) : Prop := (1 ≤ w ∧ w ≤ 60) ∧ x.natAbs + w.natAbs ≤ 1000000 ∧ y.natAbs + w.natAbs ≤ 1000000
def spGrid : Sp := fun vs H Q _ => ∃ (b l : Addr) (ns : List Int) (n : Nat), vs = [.ref b] ∧ BagAt H b l ns n ∧ n < 900000 ∧ ∀ (p : Addr) (w x y : Int) (H' : Hp), Grid w x y → H p = none → H' p = some (.tup [.int w, .int x, .int y]) → BagAt H' b l ns (n + 3) → But H H' b → Q (.ref p) H'
def Near (z : Pt) : Prop := z.1.natAbs ≤ 1000000 ∧ z.2.natAbs ≤ 1000000
def spSpot : Sp := fun vs H Q _ => ∃ (b l g : Addr) (ns : List Int) (n : Nat) (w x y : Int), vs = [.ref b, .ref g] ∧ BagAt H b l ns n ∧ n < 900000 ∧ H g = some (.tup [.int w, .int x, .int y]) ∧ Grid w x y ∧
  ∀ (p : Addr) (z : Pt) (H' : Hp), Near z → H p = none → H' p = some (.tup (prV z)) → BagAt H' b l ns (n + 2) → But H H' b → Q (.ref p) H'
section
variable {P : Program} {w : World} {K : PySem.W.Frag} {mg : Str → Option Value} {base : Heap} {f : Addr} {fd : FuncData}
abbrev sGrid : Stmt := top 111
theorem scGrid : FnScope ["_law_bag_here", "_law_way"] ["_law_bag_here"] (defScope sGrid) := ⟨rfl, rfl, rfl, by decide +kernel, rfl, by decide +kernel, by decide +kernel⟩
theorem ok_grid (F : FnP K "_law_grid" sGrid f fd) (O__law_pull : Own P w K mg base 1 "_law_pull" ["_law_bag_here", "_law_many"] spPull) : FnOk P w K mg base CX0 2 f fd ["_law_bag_here"] spGrid := by
  have nd := scGrid.nd
  refine F.ok scGrid (fun vs H Q E h => ?_) (fun cdv A outer s H vs Q E hr h => ⟨_, PSs.nox (pss_cons (ps_set (i := 1) nd rfl (.inl rfl) (Hs.pe_own O__law_pull hr (by first | decide | omega) (by rfl) (pa_cons (pv 0) (pa_cons pe_int pa_nil))))
  (pss_cons (ps_if (pt_cmpR op_lt (pv 1) pe_int (nomark _)) (pss_one (ps_ret (pe_tup (pa_cons pe_int (pa_cons pe_int (pa_cons pe_int pa_nil)))))) pss_nil)
  (pss_cons (ps_if (pt_cmpR op_eq (pv 1) pe_int (nomark _)) (pss_one (ps_ret (pe_tup (pa_cons (pe_op op_add pe_int (Hs.pe_own O__law_pull hr (by first | decide | omega) (by rfl) (pa_cons (pv 0) (pa_cons pe_int pa_nil)))) (pa_cons pe_int (pa_cons pe_int pa_nil)))))) pss_nil)
  (pss_one (ps_ret (pe_tup (pa_cons pe_int (pa_cons (pe_op op_mulW (pe_op op_sub (pe_op op_pow pe_int pe_int) pe_int) (pe_op op_sub (pe_op op_mulW pe_int (Hs.pe_own O__law_pull hr (by first | decide | omega) (by rfl) (pa_cons (pv 0) (pa_cons pe_int pa_nil)))) pe_int)) (pa_cons (pe_op op_mulW (pe_op op_sub (pe_op op_pow pe_int pe_int) pe_int) (pe_op op_sub (Hs.pe_own O__law_pull hr (by first | decide | omega) (by rfl) (pa_cons (pv 0) (pa_cons pe_int pa_nil))) pe_int)) pa_nil))))))))), ?_⟩)
  · obtain ⟨b, l, ns, n, rfl, _⟩ := h
    rfl
  · obtain ⟨b, l, ns, n, rfl, B, hn, k⟩ := h
    refine ⟨_, rfl, b, l, ns, n, 6, rfl, B, by omega, by decide, by decide, fun v H1 v0 v1 B1 b1 => ?_⟩
    refine q_when (et_test (ev_op (ev_var rfl) ev_c rv_I0)) (fun ht H2 e2 => ?_) (fun ht H2 e2 => ?_)
    · exact s_retU (eu_tup (ea_cons ev_c (ea_cons ev_c (ea_cons ev_c ea_nil))) (by simp)) fun p H3 hp e3 h3 => k p 4 0 0 H3 ⟨by decide, by decide, by decide⟩ (b1.fresh B1 (fresh_back e2 hp)) h3 (B1.ext (e2.trans e3) (by omega)) (b1.ex (e2.trans e3))
    · refine q_when (et_test (ev_op (ev_var rfl) ev_c (rv_eq rfl))) (fun ht H3 e3 => ?_) (fun ht H3 e3 => ?_)
      · have e23 := e2.trans e3
        refine ⟨_, rfl, b, l, ns, n + 1, 60, rfl, B1.ext e23 (Nat.le_refl _), by omega, by decide, by decide, fun v2 H4 v20 v21 B4 b4 => ⟨_, _, rfl, rfl, sz_of (by simp), fun p hp => ?_⟩⟩
        have b14 := (b1.ex e23).trans b4
        exact k p _ _ _ _ ⟨⟨by omega, by omega⟩, by omega, by omega⟩ (b14.fresh B4 hp) upd_same (B4.ext (Ex.new hp) (by omega)) (b14.ex (Ex.new hp))
      · have e23 := e2.trans e3
        refine ⟨_, _, rfl, rfl, ⟨by decide, by decide, by decide⟩, _, _, rfl, rfl, _, rfl, b, l, ns, n + 1, 2, rfl, B1.ext e23 (Nat.le_refl _), by omega, by decide, by decide, fun v2 H4 v20 v21 B4 b4 => ⟨_, _, rfl, rfl, mul64 (by decide) (by omega), _, _, rfl, rfl, _, _, rfl, rfl, mul64 (by decide) (by omega), ?_⟩⟩
        refine ⟨_, _, rfl, rfl, ⟨by decide, by decide, by decide⟩, _, _, rfl, rfl, _, rfl, b, l, ns, n + 2, 3, rfl, B4, by omega, by decide, by decide, fun v3 H5 v30 v31 B5 b5 => ⟨_, _, rfl, rfl, _, _, rfl, rfl, mul64 (by decide) (by omega), sz_of (by simp), fun p hp => ?_⟩⟩
        have b15 := ((b1.ex e23).trans b4).trans b5
        have t6 : (10 : Int) ^ Int.toNat 6 = 1000000 := by decide
        exact k p _ _ _ _ ⟨⟨by omega, by omega⟩, by rw [t6]; omega, by rw [t6]; omega⟩ (b15.fresh B5 hp) upd_same (B5.ext (Ex.new hp) (by omega)) (b15.ex (Ex.new hp))
abbrev sSpot : Stmt := top 112
theorem scSpot : FnScope ["_law_bag_here", "_law_grid_here", "_law_wide", "_law_across", "_law_north", "_law_first"] ["_law_bag_here", "_law_grid_here"] (defScope sSpot) := ⟨rfl, rfl, rfl, by decide +kernel, rfl, by decide +kernel, by decide +kernel⟩
theorem ok_spot (F : FnP K "_law_spot" sSpot f fd) (O__law_pull : Own P w K mg base 1 "_law_pull" ["_law_bag_here", "_law_many"] spPull) : FnOk P w K mg base CX0 2 f fd ["_law_bag_here", "_law_grid_here"] spSpot := by
  have nd := scSpot.nd
  refine F.ok scSpot (fun vs H Q E h => ?_) (fun cdv A outer s H vs Q E hr h => ⟨_, PSs.nox (pss_cons (ps_asg (pv 1) (pg_tup rfl (pgs_cons (pg_name (i := 2) nd rfl (.inl rfl)) (pgs_cons (pg_name (i := 3) nd rfl (.inl rfl)) (pgs_cons (pg_name (i := 4) nd rfl (.inl rfl)) pgs_nil)))))
  (pss_cons (ps_set (i := 5) nd rfl (.inl rfl) (pe_op op_sub (pe_op op_add (pv 3) (Hs.pe_own O__law_pull hr (by first | decide | omega) (by rfl) (pa_cons (pv 0) (pa_cons (pe_op op_add (pe_op op_mulW pe_int (pv 2)) pe_int) pa_nil)))) (pv 2)))
  (pss_one (ps_ret (pe_tup (pa_cons (pv 5) (pa_cons (pe_op op_sub (pe_op op_add (pv 4) (Hs.pe_own O__law_pull hr (by first | decide | omega) (by rfl) (pa_cons (pv 0) (pa_cons (pe_op op_add (pe_op op_mulW pe_int (pv 2)) pe_int) pa_nil)))) (pv 2)) pa_nil))))))), ?_⟩)
  · obtain ⟨b, l, g, ns, n, w, x, y, rfl, _⟩ := h
    rfl
  · obtain ⟨b, l, g, ns, n, w, x, y, rfl, B, hn, hg, G, k⟩ := h
    obtain ⟨⟨w0, w1⟩, gx, gy⟩ := G
    refine ⟨_, rfl, g, _, rfl, st_of hg, rfl, _, _, rfl, _, _, rfl, _, _, rfl, rfl, ?_⟩
    show tSeq _ _ _ [some (.ref b), some (.ref g), some (.int w), some (.int x), some (.int y), none] H
    refine ⟨_, rfl, _, rfl, _, rfl, _, _, rfl, rfl, mul64 (by decide) (by omega), _, _, rfl, rfl, b, l, ns, n, _, rfl, B, by omega, by omega, by omega, fun v H1 v0 v1 B1 b1 => ⟨_, _, rfl, rfl, _, rfl, _, _, rfl, rfl, ?_⟩⟩
    refine ⟨_, rfl, _, rfl, _, rfl, _, rfl, _, _, rfl, rfl, mul64 (by decide) (by omega), _, _, rfl, rfl, b, l, ns, n + 1, _, rfl, B1, by omega, by omega, by omega, fun v2 H2 v20 v21 B2 b2 => ⟨_, _, rfl, rfl, _, rfl, _, _, rfl, rfl, sz_of (by simp), fun p hp => ?_⟩⟩
    have b12 := b1.trans b2
    refine k p (x + v - w, y + v2 - w) _ ⟨?_, ?_⟩ (b12.fresh B2 hp) upd_same (B2.ext (Ex.new hp) (by omega)) (b12.ex (Ex.new hp))
    · show (x + v - w).natAbs ≤ _
      omega
    · show (y + v2 - w).natAbs ≤ _
      omega
end
/-- places that stand -/
def Pts (H : Hp) (ps : List Addr) (zs : List Pt) : Prop := ps.length = zs.length ∧ ∀ (i : Nat) (p : Addr) (z : Pt), ps[i]? = some p → zs[i]? = some z → H p = some (.tup (prV z)) ∧ Near z
theorem lc_spots {m j ib ig n : Nat} {vs : List Nat} {σ : L2.St} {H : Hp} {Q : VK} {b l g : Addr} {ns : List Int} {w x y : Int} {E : XK} (hw : ∀ v, wipe ((wipe σ vs).set j (some v)) vs = wipe σ vs) (h1 : ∀ v, ((wipe σ vs).set j (some v))[ib]? = some (some (.ref b))) (h2 : ∀ v, ((wipe σ vs).set j (some v))[ig]? = some (some (.ref g)))
    (B : BagAt H b l ns n) (hn : n + 2 * m < 900000) (hm : m ≤ 1000) (hg : H g = some (.tup [.int w, .int x, .int y])) (G : Grid w x y)
    (k : ∀ (Dl : Addr) (ps : List Addr) (zs : List Pt) (H' : Hp), H Dl = none → H' Dl = some (.lst (ps.map V.ref)) → ps.length = m → Pts H' ps zs → BagAt H' b l ns (n + 2 * m) → But H H' b → Q (.ref Dl) H') :
    tLc (iRng1 (tCons (tC (.int m)) tNil)) (gName j) tYes (tCall spSpot [] E (tCons (tVar ib) (tCons (tVar ig) tNil))) vs σ H Q := by
  refine ⟨m, rfl, by omega, by omega, fun Dl hD => ?_⟩
  have nDb := bag_ne B hD
  have nDl : Dl ≠ l := Ne.symm (ne_of_none B.ls hD)
  refine lc_range (lo := 0) (n := (m : Int).toNat) (fun i H' => BagAt H' b l ns (n + 2 * i) ∧ But H H' b ∧ ∃ (ps : List Addr) (zs : List Pt), H' Dl = some (.lst (ps.map V.ref)) ∧ ps.length = i ∧ Pts H' ps zs) ⟨B.ext (Ex.new hD) (by omega), But.of (Ex.new hD), [], [], upd_same, rfl, rfl, fun i p x h => by cases h⟩ (fun i H' hi p => ⟨hw _, ?_⟩) (fun H' p => ?_)
  · obtain ⟨Bi, bi, ps, zs, hDl, hlen, hLl, hL⟩ := p
    have hi2 : i < m := by omega
    refine ⟨_, h1 _, _, h2 _, b, l, g, ns, n + 2 * i, w, x, y, rfl, Bi, by omega, bi.tup B hg, G, fun p z H2 hz np hp B2 b2 => ?_⟩
    have hDl2 := b2 _ _ hDl nDb
    have keep : ∀ r us, H2 r = some (.tup us) → upd H2 Dl (.lst (ps.map V.ref ++ [.ref p])) r = some (.tup us) := fun r us h => by
      rw [upd_ne (ne_of h hDl2 (by intro z; cases z))]
      exact h
    refine ⟨_, hDl2, sz_lt (by rw [List.length_map]; omega), bag_upd (B2.ext (Ex.refl _) (by omega)) (Ne.symm nDb) (Ne.symm nDl), fun a o ha hb => ?_, ps ++ [p], zs ++ [z], by rw [upd_same, List.map_append] <;> rfl, by rw [List.length_append, hlen] <;> rfl, by rw [List.length_append, List.length_append, hLl] <;> rfl, fun j r u hr hu => ?_⟩
    · rw [upd_ne (ne_of_none ha hD)]
      exact b2 _ _ (bi _ _ ha hb) hb
    · by_cases hj : j < ps.length
      · rw [List.getElem?_append_left hj] at hr
        rw [List.getElem?_append_left (by omega)] at hu
        obtain ⟨q1, q2⟩ := hL j r u hr hu
        exact ⟨keep _ _ (b2.tup Bi q1), q2⟩
      · rw [List.getElem?_append_right (by omega)] at hr
        rw [List.getElem?_append_right (by omega)] at hu
        have e0 : j - ps.length = 0 := by
          have : j - ps.length < 1 := (List.getElem?_eq_some_iff.mp hr).1
          omega
        have e1 : j - zs.length = 0 := by omega
        rw [e0] at hr
        rw [e1] at hu
        cases hr
        cases hu
        exact ⟨keep _ _ hp, hz⟩
  · obtain ⟨Bi, bi, ps, zs, hDl, hlen, hP⟩ := p
    have em : ((m : Int).toNat) = m := by omega
    rw [em] at Bi hlen
    exact k Dl ps zs H' hD hDl hlen hP Bi bi
end Hs
namespace Hs
open PySem PySem.Spec PyProof.Rows L2 Evl
theorem q_ev {te : TE} {g : TG} {tz : TS} {D : Ends} {σ : L2.St} {H : Hp} (h : te σ H fun x H1 => g x σ H1 (tz D)) : tSeq (tAsg te g) tz D σ H := h
theorem s_ev {te : TE} {g : TG} {D : Ends} {σ : L2.St} {H : Hp} (h : te σ H fun x H1 => g x σ H1 D.nx) : tAsg te g D σ H := h
/-! ### comprehensions whose elements are new tuples -/
/-- new tuples, by their items -/
def Tups (H : Hp) (ps : List Addr) (us : List (List V)) : Prop := ps.length = us.length ∧ ∀ (i : Nat) (p : Addr) (u : List V), ps[i]? = some p → us[i]? = some u → H p = some (.tup u)
theorem Tups.ext {H H' : Hp} {ps : List Addr} {us : List (List V)} (h : Tups H ps us) (e : Ex H H') : Tups H' ps us := ⟨h.1, fun i p u hp hu => e _ _ (h.2 i p u hp hu)⟩
theorem Tups.snoc {H : Hp} {ps : List Addr} {us : List (List V)} {p : Addr} {u : List V} (h : Tups H ps us) (hp : H p = some (.tup u)) : Tups H (ps ++ [p]) (us ++ [u]) := by
  refine ⟨by rw [List.length_append, List.length_append, h.1] <;> rfl, fun j r v hr hv => ?_⟩
  have hl := h.1
  by_cases hj : j < ps.length
  · rw [List.getElem?_append_left hj] at hr
    rw [List.getElem?_append_left (by omega)] at hv
    exact h.2 j r v hr hv
  · rw [List.getElem?_append_right (by omega)] at hr
    rw [List.getElem?_append_right (by omega)] at hv
    have e0 : j - ps.length = 0 := by
      have : j - ps.length < 1 := (List.getElem?_eq_some_iff.mp hr).1
      omega
    have e1 : j - us.length = 0 := by omega
    rw [e0] at hr
    rw [e1] at hv
    cases hr
    cases hv
    exact hp
/-- a new list of new tuples -/
def EvLU (te : TE) (σ : L2.St) (H : Hp) (us : List (List V)) : Prop := ∀ H1, Ex H H1 → ∀ Q : VK, (∀ (p : Addr) (ps : List Addr) (H2 : Hp), H1 p = none → Ex H1 H2 → H2 p = some (.lst (ps.map V.ref)) → Tups H2 ps us → Q (.ref p) H2) → te σ H1 Q
/-- the turns so far -/
def Cu (H : Hp) (us : List (List V)) (Dl : Addr) (i : Nat) (H' : Hp) : Prop := H Dl = none ∧ Ex H H' ∧ ∃ ps : List Addr, H' Dl = some (.lst (ps.map V.ref)) ∧ Tups H' ps (us.take i)
theorem cu_turn {H H' : Hp} {us : List (List V)} {u : List V} {Dl : Addr} {i : Nat} {σ2 : L2.St} {te : TE} (p : Cu H us Dl i H') (hi : i < 50000) (hu : us[i]? = some u) (he : EvU te σ2 H u) :
    tYes σ2 H' fun b H3 => if b = true then te σ2 H3 fun y H4 => ∃ acc, H4 Dl = some (.lst acc) ∧ acc.length < sizeLine ∧ Cu H us Dl (i + 1) (upd H4 Dl (.lst (acc ++ [y]))) else Cu H us Dl (i + 1) H3 := by
  obtain ⟨p1, p2, ps, p3, p4⟩ := p
  show te σ2 H' fun y H4 => ∃ acc, H4 Dl = some (.lst acc) ∧ acc.length < sizeLine ∧ Cu H us Dl (i + 1) (upd H4 Dl (.lst (acc ++ [y])))
  refine he H' p2 _ fun q H4 hq e4 h4 => ⟨ps.map V.ref, e4 _ _ p3, sz_lt ?_, p1, Ex.mut (p2.trans e4) p1, ps ++ [q], by rw [upd_same, List.map_append] <;> rfl, ?_⟩
  · have := p4.1
    rw [List.length_map, this, List.length_take]
    omega
  · have e : us.take (i + 1) = us.take i ++ [u] := by rw [List.take_add_one, hu] <;> rfl
    rw [e]
    have h4D := e4 _ _ p3
    have keep : ∀ r v, H4 r = some (.tup v) → upd H4 Dl (.lst (ps.map V.ref ++ [.ref q])) r = some (.tup v) := fun r v h => by
      rw [upd_ne (ne_of h h4D (by intro z; cases z))]
      exact h
    exact Tups.snoc ⟨p4.1, fun j r v hr hv => keep _ _ (e4 _ _ (p4.2 j r v hr hv))⟩ (keep _ _ h4)
section
variable {K : PySem.W.Frag} {σ : L2.St} {H : Hp} {te : TE}
theorem elu_lcT {a : Addr} {xs : List V} {us : List (List V)} {tl : TE} {j : Nat} {vs : List Nat} (h : Ev tl σ H (.ref a)) (hx : SqT K H a xs) (hz : xs.length ≤ 40000) (hl : us.length = xs.length) (hw : ∀ x, wipe ((wipe σ vs).set j (some x)) vs = wipe σ vs)
    (he : ∀ (i : Nat) (x : V) (u : List V) H1, Ex H H1 → xs[i]? = some x → us[i]? = some u → EvU te ((wipe σ vs).set j (some x)) H1 u) :
    EvLU (tLc (iTup K tl) (gName j) tYes te vs) σ H us := fun H0 e Q q => h H0 e _ fun H1 e1 => ⟨a, rfl, ⟨xs, ex_t (e.trans e1) hx⟩, fun Dl hD =>
  lc_tup (xs := xs) (Cu H1 us Dl) ⟨hD, Ex.new hD, [], upd_same, rfl, fun i p u h => by cases h⟩ (fun i H' _ p => ex_t ((e.trans e1).trans p.2.1) hx) (fun i x H' hi p => by
      have hix := (List.getElem?_eq_some_iff.mp hi).1
      have hiu : i < us.length := by omega
      exact ⟨hw x, cu_turn p (by omega) (List.getElem?_eq_getElem hiu) (he i x _ H1 (e.trans e1) hi (List.getElem?_eq_getElem hiu))⟩)
    (fun H' p => by
      obtain ⟨p1, p2, ps, p3, p4⟩ := p
      rw [← hl, List.take_length] at p4
      exact q Dl ps H' (fresh_back e1 p1) (e1.trans p2) p3 p4)⟩
theorem elu_lcL {a : Addr} {xs : List V} {us : List (List V)} {tl : TE} {j : Nat} {vs : List Nat} (h : Ev tl σ H (.ref a)) (hx : SqL K H a xs) (hz : xs.length ≤ 40000) (hl : us.length = xs.length) (hw : ∀ x, wipe ((wipe σ vs).set j (some x)) vs = wipe σ vs)
    (he : ∀ (i : Nat) (x : V) (u : List V) H1, Ex H H1 → xs[i]? = some x → us[i]? = some u → EvU te ((wipe σ vs).set j (some x)) H1 u) :
    EvLU (tLc (iList K tl) (gName j) tYes te vs) σ H us := fun H0 e Q q => h H0 e _ fun H1 e1 => ⟨a, rfl, ⟨xs, ex_l (e.trans e1) hx⟩, fun Dl hD =>
  lc_list (xs := xs) (Cu H1 us Dl) ⟨hD, Ex.new hD, [], upd_same, rfl, fun i p u h => by cases h⟩ (fun i H' _ p => ex_l ((e.trans e1).trans p.2.1) hx) (fun i x H' hi p => by
      have hix := (List.getElem?_eq_some_iff.mp hi).1
      have hiu : i < us.length := by omega
      exact ⟨hw x, cu_turn p (by omega) (List.getElem?_eq_getElem hiu) (he i x _ H1 (e.trans e1) hi (List.getElem?_eq_getElem hiu))⟩)
    (fun H' p => by
      obtain ⟨p1, p2, ps, p3, p4⟩ := p
      rw [← hl, List.take_length] at p4
      exact q Dl ps H' (fresh_back e1 p1) (e1.trans p2) p3 p4)⟩
/-- over a new tuple -/
theorem elu_lcNT {xs : List V} {us : List (List V)} {tl : TE} {j : Nat} {vs : List Nat} (h : EvU tl σ H xs) (hz : xs.length ≤ 40000) (hl : us.length = xs.length) (hw : ∀ x, wipe ((wipe σ vs).set j (some x)) vs = wipe σ vs)
    (he : ∀ (i : Nat) (x : V) (u : List V) H1, Ex H H1 → xs[i]? = some x → us[i]? = some u → EvU te ((wipe σ vs).set j (some x)) H1 u) :
    EvLU (tLc (iTup K tl) (gName j) tYes te vs) σ H us := fun H0 e Q q => h H0 e _ fun a H1 ha e1 hx => ⟨a, rfl, ⟨xs, st_of hx⟩, fun Dl hD =>
  lc_tup (xs := xs) (Cu H1 us Dl) ⟨hD, Ex.new hD, [], upd_same, rfl, fun i p u h => by cases h⟩ (fun i H' _ p => st_of (p.2.1 a _ hx)) (fun i x H' hi p => by
      have hix := (List.getElem?_eq_some_iff.mp hi).1
      have hiu : i < us.length := by omega
      exact ⟨hw x, cu_turn p (by omega) (List.getElem?_eq_getElem hiu) (he i x _ H1 (e.trans e1) hi (List.getElem?_eq_getElem hiu))⟩)
    (fun H' p => by
      obtain ⟨p1, p2, ps, p3, p4⟩ := p
      rw [← hl, List.take_length] at p4
      exact q Dl ps H' (fresh_back e1 p1) (e1.trans p2) p3 p4)⟩
theorem el_lcT' {a : Addr} {xs : List V} {tl : TE} {j : Nat} {vs : List Nat} (v : Nat → V) (h : Ev tl σ H (.ref a)) (hx : SqT K H a xs) (hz : xs.length ≤ 40000) (hw : ∀ x, wipe ((wipe σ vs).set j (some x)) vs = wipe σ vs)
    (he : ∀ (i : Nat) (x : V) H1, Ex H H1 → xs[i]? = some x → Ev te ((wipe σ vs).set j (some x)) H1 (v i)) :
    EvL (tLc (iTup K tl) (gName j) tYes te vs) σ H (given xs.length (fun _ => true) v) := fun H0 e Q q => h H0 e _ fun H1 e1 => ⟨a, rfl, ⟨xs, ex_t (e.trans e1) hx⟩, fun Dl hD =>
  lc_tup (xs := xs) (Cw H1 (fun _ => true) v Dl) ⟨hD, Ex.new hD, upd_same⟩ (fun i H' _ p => ex_t ((e.trans e1).trans p.2.1) hx) (fun i x H' hi p => ⟨hw x, cw_turn p (by have := (List.getElem?_eq_some_iff.mp hi).1; omega) (fun H1 _ Q q => q H1 (Ex.refl H1)) (fun _ => he i x H1 (e.trans e1) hi)⟩)
    (fun H' p => q Dl H' (fresh_back e1 p.1) (e1.trans p.2.1) p.2.2)⟩
theorem el_lcL' {a : Addr} {xs : List V} {tl : TE} {j : Nat} {vs : List Nat} (v : Nat → V) (h : Ev tl σ H (.ref a)) (hx : SqL K H a xs) (hz : xs.length ≤ 40000) (hw : ∀ x, wipe ((wipe σ vs).set j (some x)) vs = wipe σ vs)
    (he : ∀ (i : Nat) (x : V) H1, Ex H H1 → xs[i]? = some x → Ev te ((wipe σ vs).set j (some x)) H1 (v i)) :
    EvL (tLc (iList K tl) (gName j) tYes te vs) σ H (given xs.length (fun _ => true) v) := el_lcL (fun _ => true) v h hx hz hw (fun _ _ H1 _ _ H2 _ Q q => q H2 (Ex.refl H2)) fun i x H1 e1 hx _ => he i x H1 e1 hx
/-- tuple([..]) -/
theorem eu_tuple {tl : TE} {xs : List V} (h : EvL tl σ H xs) : EvU (tCB (fun xs H Q => ∃ p ys, xs = [.ref p] ∧ ((SqL K H p ys ∧ ∀ l, H l = none → Q (.ref l) (upd H l (.tup ys))) ∨ (SqT K H p ys ∧ Q (.ref p) H))) (tCons tl tNil)) σ H xs := fun H1 e Q q =>
  h H1 e _ fun p H2 _ e2 h2 => ⟨p, xs, rfl, .inl ⟨sq_of h2, fun l hl => q l _ (fresh_back e2 hl) (e2.trans (Ex.new hl)) upd_same⟩⟩
/-! ### the law's own comparison, of lists of plain values -/
theorem sm_flat {d : Nat} {v : V} (h : flatV v = true) : Sm K H (d + 1) v v := .inl ⟨rfl, h⟩
theorem sm_row {d : Nat} {xs : List V} (hf : xs.all flatV = true) (i : Nat) (x y : V) (hx : xs[i]? = some x) (hy : xs[i]? = some y) : Sm K H (d + 1) x y := by
  have e : x = y := Option.some.inj (hx.symm.trans hy)
  subst e
  exact sm_flat (List.all_eq_true.mp hf x (List.mem_of_getElem? hx))
theorem sm_lstF {d : Nat} {p q : Addr} {xs : List V} (h1 : SqL K H p xs) (h2 : SqL K H q xs) (hf : xs.all flatV = true) (hz : xs.length ≤ 1000) : Sm K H (d + 2) (.ref p) (.ref q) := .inr ⟨p, q, xs, xs, rfl, rfl, .inl ⟨h1, h2⟩, rfl, hz, sm_row hf⟩
theorem sm_tupF {d : Nat} {p q : Addr} {xs : List V} (h1 : SqT K H p xs) (h2 : SqT K H q xs) (hf : xs.all flatV = true) (hz : xs.length ≤ 1000) : Sm K H (d + 2) (.ref p) (.ref q) := .inr ⟨p, q, xs, xs, rfl, rfl, .inr ⟨h1, h2⟩, rfl, hz, sm_row hf⟩
theorem et_sameL {t1 t2 : TE} {xs : List V} {E : XK} {d : Nat} (h1 : EvL t1 σ H xs) (h2 : EvL t2 σ H xs) (hf : xs.all flatV = true) (hz : xs.length ≤ 1000) : EvT (tNot (tB (tCall (spSame K (d + 2)) [] E (tCons t1 (tCons t2 tNil))))) σ H false := fun H0 e0 Q q =>
  h1 H0 e0 _ fun p H1 n1 e1 b1 => h2 H1 (e0.trans e1) _ fun r H2 n2 e2 b2 => ⟨_, _, rfl, sm_lstF (sq_of (e2 _ _ b1)) (sq_of b2) hf hz, fun H3 e3 => ⟨true, rfl, q H3 ((e1.trans e2).trans e3)⟩⟩
/-! ### the program's functions, by their readings -/
theorem ev_side {n i j k : Nat} {p q r : Addr} {x y z : Pt} {E : XK} (h1 : σ[i]? = some (some (.ref p))) (h2 : σ[j]? = some (some (.ref q))) (h3 : σ[k]? = some (some (.ref r))) (hx : Pl K n H p x) (hy : Pl K n H q y) (hz : Pl K n H r z) :
    Ev (tCall (spSide K n) [] E (tCons (tVar i) (tCons (tVar j) (tCons (tVar k) tNil)))) σ H (.int (sgn (cross x y z))) := ev_call (ea_cons (ev_var h1) (ea_cons (ev_var h2) (ea_cons (ev_var h3) ea_nil))) fun H1 e1 Q' q' E' => ⟨p, q, r, x, y, z, rfl, hx.ext e1, hy.ext e1, hz.ext e1, q'⟩
theorem ev_cross {n i j k : Nat} {p q r : Addr} {x y z : Pt} {E : XK} (h1 : σ[i]? = some (some (.ref p))) (h2 : σ[j]? = some (some (.ref q))) (h3 : σ[k]? = some (some (.ref r))) (hx : Pl K n H p x) (hy : Pl K n H q y) (hz : Pl K n H r z) :
    Ev (tCall (spCross K n) [] E (tCons (tVar i) (tCons (tVar j) (tCons (tVar k) tNil)))) σ H (.int (cross x y z)) := ev_call (ea_cons (ev_var h1) (ea_cons (ev_var h2) (ea_cons (ev_var h3) ea_nil))) fun H1 e1 Q' q' E' => ⟨p, q, r, x, y, z, rfl, hx.ext e1, hy.ext e1, hz.ext e1, q'⟩
end
theorem sgn_neg (i : Int) : sgn (-i) = -sgn i := by
  unfold sgn
  split <;> split <;> (try split) <;> (try split) <;> omega
theorem cross_swap (a b c : Pt) : cross b a c = -cross a b c := by
  unfold cross
  grind
theorem on_self (a b : Pt) : OnP a b a := by
  unfold OnP cross mn mx
  refine ⟨by simp [Int.sub_self], ?_, ?_, ?_, ?_⟩ <;> split <;> omega
theorem due_sgn (i : Int) : (if i < 0 then -1 else if decide (i > 0) = true then 1 else 0) = sgn i := by
  unfold sgn
  split <;> (try split) <;> (try split) <;> (try split) <;> simp_all <;> omega
end Hs
namespace Hs
/-! ### cutting a hull down by heights: what is left, in whole numbers -/
def dot (w h : List Int) : Int := (List.zipWith (· * ·) w h).sum
theorem dot_cons (a b : Int) (w h : List Int) : dot (a :: w) (b :: h) = a * b + dot w h := by simp [dot]
theorem dot_nil (h : List Int) : dot [] h = 0 := by simp [dot]
/-- a combination of two -/
def comb (p : List Int) (a : Int) (q : List Int) (b : Int) : List Int := List.zipWith (fun x y => x * a + y * b) p q
theorem comb_dot {a b : Int} : ∀ {p q f : List Int}, p.length = q.length → dot (comb p a q b) f = a * dot p f + b * dot q f
  | [], [], f, _ => by simp [comb, dot]
  | x :: p, y :: q, [], _ => by simp [comb, dot]
  | x :: p, y :: q, z :: f, h => by
    have ih := comb_dot (a := a) (b := b) (f := f) (Nat.succ.inj h)
    have e : comb (x :: p) a (y :: q) b = (x * a + y * b) :: comb p a q b := rfl
    rw [e, dot_cons, dot_cons, dot_cons, ih]
    grind
/-- f and h mixed -/
theorem mix_dot {a b : Int} : ∀ {w f h : List Int}, f.length = h.length → dot w (comb f a h b) = a * dot w f + b * dot w h
  | [], f, h, _ => by simp [dot]
  | x :: w, [], [], _ => by simp [comb, dot]
  | x :: w, y :: f, z :: h, e => by
    have ih := mix_dot (w := w) (a := a) (b := b) (Nat.succ.inj e)
    have e2 : comb (y :: f) a (z :: h) b = (y * a + z * b) :: comb f a h b := rfl
    rw [e2, dot_cons, dot_cons, dot_cons, ih]
    grind
theorem comb_len {p q : List Int} {a b : Int} (h : p.length = q.length) : (comb p a q b).length = p.length := by simp [comb, h]
def gl (g : Int) : List Int → Int
  | [] => g
  | w :: ws => gl (Int.gcd g w : Int) ws
theorem gl_nn : ∀ {ws : List Int} {g : Int}, 0 ≤ g → 0 ≤ gl g ws
  | [], g, h => h
  | w :: ws, g, _ => gl_nn (ws := ws) (g := (Int.gcd g w : Int)) (by omega)
theorem gl_dvd : ∀ {ws : List Int} {g : Int}, gl g ws ∣ g ∧ ∀ w ∈ ws, gl g ws ∣ w
  | [], g => ⟨Int.dvd_refl g, fun w hw => by cases hw⟩
  | v :: ws, g => by
    obtain ⟨h1, h2⟩ := gl_dvd (ws := ws) (g := (Int.gcd g v : Int))
    refine ⟨Int.dvd_trans h1 (Int.gcd_dvd_left ..), fun w hw => ?_⟩
    rcases List.mem_cons.mp hw with rfl | hw
    · exact Int.dvd_trans h1 (Int.gcd_dvd_right ..)
    · exact h2 w hw
theorem gl_ne {ws : List Int} {w : Int} (hw : w ∈ ws) (h : w ≠ 0) : gl 0 ws ≠ 0 := fun e => by
  have := (gl_dvd (ws := ws) (g := 0)).2 w hw
  rw [e] at this
  exact h (Int.zero_dvd.mp this)
theorem div_dot {g : Int} : ∀ {ws f : List Int}, (∀ w ∈ ws, g ∣ w) → g * dot (ws.map (·.fdiv g)) f = dot ws f
  | [], f, _ => by simp [dot]
  | w :: ws, [], _ => by simp [dot]
  | w :: ws, z :: f, h => by
    have ih := div_dot (f := f) fun v hv => h v (List.mem_cons_of_mem _ hv)
    have hw := h w (List.mem_cons_self ..)
    have e : g * w.fdiv g = w := by rw [Int.fdiv_eq_ediv_of_dvd hw, Int.mul_ediv_cancel' hw]
    rw [List.map_cons, dot_cons, dot_cons, ← ih]
    generalize w.fdiv g = x at e
    rw [← e]
    grind
/-- the point between prev and p at which the height is 0 -/
def mid (prev : List Int) (a : Int) (p : List Int) (b : Int) : List Int := comb prev (b.natAbs : Int) p (a.natAbs : Int)
def betw (prev : List Int) (a : Int) (p : List Int) (b : Int) : List Int := (mid prev a p b).map (·.fdiv (gl 0 (mid prev a p b)))
def ones (m : Nat) : List Int := List.replicate m 1
theorem dot_ones : ∀ {w : List Int}, dot w (ones w.length) = w.sum
  | [] => by simp [dot]
  | x :: w => by
    have e : ones (x :: w).length = 1 :: ones w.length := rfl
    rw [e, dot_cons, dot_ones, List.sum_cons, Int.mul_one]
theorem sum_nz : ∀ {ws : List Int}, ws.sum ≠ 0 → ∃ w ∈ ws, w ≠ 0
  | [], h => absurd rfl h
  | x :: ws, h => by
    by_cases hx : x = 0
    · rw [List.sum_cons, hx, Int.zero_add] at h
      obtain ⟨w, h1, h2⟩ := sum_nz h
      exact ⟨w, List.mem_cons_of_mem _ h1, h2⟩
    · exact ⟨x, List.mem_cons_self .., hx⟩
/-- weights: as many as m, none below 0, not all 0 -/
structure Wt (m : Nat) (u : List Int) : Prop where
  len : u.length = m
  nn : ∀ x ∈ u, 0 ≤ x
  pos : 0 < dot u (ones m)
/-- weights whose point is at height 0 and more by all of hs -/
def InS (m : Nat) (hs : List (List Int)) (u : List Int) : Prop := Wt m u ∧ ∀ h ∈ hs, 0 ≤ dot u h
theorem zip_nn {a b : Int} (ha : 0 ≤ a) (hb : 0 ≤ b) : ∀ {p q : List Int}, (∀ x ∈ p, 0 ≤ x) → (∀ x ∈ q, 0 ≤ x) → ∀ x ∈ comb p a q b, 0 ≤ x
  | [], _, _, _, x, h => by simp [comb] at h
  | _ :: _, [], _, _, x, h => by simp [comb] at h
  | y :: p, z :: q, h1, h2, x, h => by
    have e : comb (y :: p) a (z :: q) b = (y * a + z * b) :: comb p a q b := rfl
    rw [e] at h
    rcases List.mem_cons.mp h with rfl | h
    · have e1 := Int.mul_nonneg (h1 y (List.mem_cons_self ..)) ha
      have e2 := Int.mul_nonneg (h2 z (List.mem_cons_self ..)) hb
      omega
    · exact zip_nn ha hb (fun w hw => h1 w (List.mem_cons_of_mem _ hw)) (fun w hw => h2 w (List.mem_cons_of_mem _ hw)) x h
theorem opp {a b : Int} (h : b * a < 0) : (a < 0 ∧ 0 < b) ∨ (0 < a ∧ b < 0) := by
  rcases Int.lt_trichotomy a 0 with h1 | h1 | h1
  · refine .inl ⟨h1, Decidable.byContradiction fun h2 => ?_⟩
    have := Int.mul_nonneg_of_nonpos_of_nonpos (a := b) (b := a) (by omega) (by omega)
    omega
  · rw [h1, Int.mul_zero] at h
    omega
  · refine .inr ⟨h1, Decidable.byContradiction fun h2 => ?_⟩
    have := Int.mul_nonneg (a := b) (b := a) (by omega) (by omega)
    omega
/-- the point between: what it is by any functional -/
theorem betw_ok {m : Nat} {prev p : List Int} {a b : Int} (hp : Wt m prev) (hq : Wt m p) (h : b * a < 0) : Wt m (betw prev a p b) ∧ ∃ g : Int, 0 < g ∧ gl 0 (mid prev a p b) = g ∧ ∀ f : List Int, g * dot (betw prev a p b) f = (b.natAbs : Int) * dot prev f + (a.natAbs : Int) * dot p f := by
  have hl : prev.length = p.length := hp.len.trans hq.len.symm
  have nn : ∀ x ∈ mid prev a p b, 0 ≤ x := zip_nn (by omega) (by omega) hp.nn hq.nn
  have ml : (mid prev a p b).length = m := (comb_len hl).trans hp.len
  have md : ∀ f, dot (mid prev a p b) f = (b.natAbs : Int) * dot prev f + (a.natAbs : Int) * dot p f := fun f => comb_dot hl
  have ab : 0 < (b.natAbs : Int) ∧ 0 < (a.natAbs : Int) := by rcases opp h with q | q <;> omega
  have mp : 0 < dot (mid prev a p b) (ones m) := by
    rw [md]
    have e1 := Int.mul_pos ab.1 hp.pos
    have e2 := Int.mul_pos ab.2 hq.pos
    omega
  have gn : gl 0 (mid prev a p b) ≠ 0 := by
    rw [← ml, dot_ones] at mp
    obtain ⟨w, h1, h2⟩ := sum_nz (ws := mid prev a p b) (by omega)
    exact gl_ne h1 h2
  have g0 := gl_nn (ws := mid prev a p b) (g := 0) (Int.le_refl 0)
  have dv := (gl_dvd (ws := mid prev a p b) (g := 0)).2
  have key : ∀ f, gl 0 (mid prev a p b) * dot (betw prev a p b) f = (b.natAbs : Int) * dot prev f + (a.natAbs : Int) * dot p f := fun f => by rw [← md f]; exact div_dot dv
  refine ⟨⟨by rw [betw, List.length_map, ml], fun x hx => ?_, ?_⟩, _, by omega, rfl, key⟩
  · obtain ⟨y, hy, rfl⟩ := List.mem_map.mp hx
    exact Int.fdiv_nonneg (nn y hy) g0
  · have e := key (ones m)
    rw [← md] at e
    rw [← e] at mp
    exact Int.pos_of_mul_pos_right mp (by omega)
/-! ### changes of sign around -/
/-- whether two are unlike, as a number -/
def nq (a b : Bool) : Nat := (a != b).toNat
theorem nq_self (a : Bool) : nq a a = 0 := by cases a <;> rfl
def chg (b : Bool) : List Bool → Nat
  | [] => 0
  | c :: cs => nq b c + chg c cs
def lastD {α : Type} (d : α) : List α → α
  | [] => d
  | x :: xs => lastD x xs
theorem lastD_app {α : Type} {d x : α} : ∀ {xs : List α}, lastD d (xs ++ [x]) = x
  | [] => rfl
  | y :: ys => lastD_app (xs := ys)
theorem lastD_app2 {α : Type} {d : α} : ∀ {xs ys : List α}, lastD d (xs ++ ys) = lastD (lastD d xs) ys
  | [], ys => rfl
  | y :: xs, ys => lastD_app2 (d := y) (xs := xs)
theorem lastD_map {α β : Type} {f : α → β} {d : α} : ∀ {xs : List α}, lastD (f d) (xs.map f) = f (lastD d xs)
  | [] => rfl
  | y :: ys => lastD_map (d := y) (xs := ys)
theorem chg_app {b : Bool} : ∀ {xs ys : List Bool}, chg b (xs ++ ys) = chg b xs + chg (lastD b xs) ys
  | [], ys => by simp [chg, lastD]
  | x :: xs, ys => by
    have ih := chg_app (b := x) (xs := xs) (ys := ys)
    simp only [List.cons_append, chg, lastD, ih]
    omega
theorem chg_tri {b c : Bool} : ∀ {xs : List Bool}, chg b xs ≤ nq b c + chg c xs
  | [] => by simp [chg]
  | x :: xs => by
    simp only [chg]
    cases b <;> cases c <;> cases x <;> simp [nq] <;> omega
/-- closed: from b through xs and on to c -/
theorem chg_filter {α : Type} {f : α → Bool} {q : α → Bool} {c : Bool} : ∀ {xs : List α} {b : Bool}, chg b ((xs.filter q).map f) + nq (lastD b ((xs.filter q).map f)) c ≤ chg b (xs.map f) + nq (lastD b (xs.map f)) c
  | [], b => Nat.le_refl _
  | x :: xs, b => by
    cases hq : q x with
    | true =>
      rw [List.filter_cons_of_pos hq]
      have ih := chg_filter (f := f) (q := q) (c := c) (xs := xs) (b := f x)
      simp only [List.map_cons, chg, lastD]
      omega
    | false =>
      rw [List.filter_cons_of_neg (by rw [hq]; decide)]
      have ih := chg_filter (f := f) (q := q) (c := c) (xs := xs) (b := f x)
      have t : chg b ((xs.filter q).map f) + nq (lastD b ((xs.filter q).map f)) c ≤ nq b (f x) + (chg (f x) ((xs.filter q).map f) + nq (lastD (f x) ((xs.filter q).map f)) c) := by
        cases hl : (xs.filter q).map f with
        | nil =>
          simp only [chg, lastD]
          cases b <;> cases c <;> cases f x <;> simp [nq]
        | cons y ys =>
          simp only [chg, lastD]
          generalize nq (lastD y ys) c = k
          generalize chg y ys = k2
          cases b <;> cases f x <;> cases y <;> simp [nq] <;> omega
      simp only [List.map_cons, chg, lastD]
      omega
/-- how often the sign of f changes around the points -/
def pos (f p : List Int) : Bool := decide (0 < dot p f)
def around (f : List Int) (pts : List (List Int)) : Nat := chg (pos f (lastD [] pts)) (pts.map (pos f))
/-! ### one cut -/
def emit (h prev p : List Int) : List (List Int) := (if dot p h * dot prev h < 0 then [betw prev (dot prev h) p (dot p h)] else []) ++ (if 0 ≤ dot p h then [p] else [])
def cutL (h prev : List Int) : List (List Int) → List (List Int)
  | [] => []
  | p :: ps => emit h prev p ++ cutL h p ps
def cutA (h : List Int) (pts : List (List Int)) : List (List Int) := cutL h (lastD [] pts) pts
theorem cutL_snoc {h p : List Int} : ∀ {prev : List Int} {ps : List (List Int)}, cutL h prev (ps ++ [p]) = cutL h prev ps ++ emit h (lastD prev ps) p
  | prev, [] => by simp [cutL, lastD]
  | prev, q :: ps => by
    have ih := cutL_snoc (h := h) (p := p) (prev := q) (ps := ps)
    simp only [List.cons_append, cutL, lastD, ih, List.append_assoc]
/-- .. the same, nothing left out -/
def ins (h prev : List Int) : List (List Int) → List (List Int)
  | [] => []
  | p :: ps => (if dot p h * dot prev h < 0 then [betw prev (dot prev h) p (dot p h)] else []) ++ p :: ins h p ps
theorem betw_h {m : Nat} {prev p h : List Int} (hp : Wt m prev) (hq : Wt m p) (hc : dot p h * dot prev h < 0) : dot (betw prev (dot prev h) p (dot p h)) h = 0 := by
  obtain ⟨_, g, g0, _, k⟩ := betw_ok hp hq hc
  have e := k h
  have z : ((dot p h).natAbs : Int) * dot prev h + ((dot prev h).natAbs : Int) * dot p h = 0 := by
    rcases opp hc with ⟨h1, h2⟩ | ⟨h1, h2⟩
    · have e1 : ((dot p h).natAbs : Int) = dot p h := by omega
      have e2 : ((dot prev h).natAbs : Int) = -dot prev h := by omega
      rw [e1, e2]
      grind
    · have e1 : ((dot p h).natAbs : Int) = -dot p h := by omega
      have e2 : ((dot prev h).natAbs : Int) = dot prev h := by omega
      rw [e1, e2]
      grind
  rw [z] at e
  rcases Int.mul_eq_zero.mp e with q | q
  · omega
  · exact q
theorem cut_ins {m : Nat} {h : List Int} : ∀ {prev : List Int} {ps : List (List Int)}, Wt m prev → (∀ p ∈ ps, Wt m p) → cutL h prev ps = (ins h prev ps).filter fun p => decide (0 ≤ dot p h)
  | prev, [], _, _ => rfl
  | prev, p :: ps, h1, h2 => by
    have hp := h2 p (List.mem_cons_self ..)
    have ih := cut_ins (h := h) hp fun q hq => h2 q (List.mem_cons_of_mem _ hq)
    simp only [cutL, ins, emit, ih, List.filter_append]
    have e1 : List.filter (fun p => decide (0 ≤ dot p h)) (if dot p h * dot prev h < 0 then [betw prev (dot prev h) p (dot p h)] else []) = (if dot p h * dot prev h < 0 then [betw prev (dot prev h) p (dot p h)] else []) := by
      split
      · rename_i hc
        rw [List.filter_cons_of_pos (by rw [betw_h h1 hp hc]; rfl)]
        rfl
      · rfl
    rw [e1, List.append_assoc]
    congr 1
    by_cases hz : 0 ≤ dot p h
    · rw [if_pos hz, List.filter_cons_of_pos (p := fun p => decide (0 ≤ dot p h)) (decide_eq_true hz)]
      rfl
    · rw [if_neg hz, List.filter_cons_of_neg (p := fun p => decide (0 ≤ dot p h)) (by rw [decide_eq_false hz]; decide)]
      rfl
theorem ins_last {h : List Int} : ∀ {prev d : List Int} {ps : List (List Int)}, ps ≠ [] → lastD d (ins h prev ps) = lastD d ps
  | prev, d, [], h => absurd rfl h
  | prev, d, [p], _ => by
    simp only [ins]
    rw [lastD_app2]
    rfl
  | prev, d, p :: q :: ps, _ => by
    have ih := ins_last (h := h) (prev := p) (d := p) (ps := q :: ps) (by simp)
    simp only [ins]
    rw [lastD_app2]
    exact ih
/-- a point between has the sign of one of both -/
theorem betw_pos {m : Nat} {prev p f : List Int} {a b : Int} (hp : Wt m prev) (hq : Wt m p) (h : b * a < 0) (e : pos f prev = pos f p) : pos f (betw prev a p b) = pos f p := by
  obtain ⟨_, g, g0, _, k⟩ := betw_ok hp hq h
  have kf := k f
  have ab : 0 < (b.natAbs : Int) ∧ 0 < (a.natAbs : Int) := by rcases opp h with q | q <;> omega
  unfold pos at e ⊢
  by_cases h1 : 0 < dot p f
  · have h2 : 0 < dot prev f := by
      rw [decide_eq_true h1] at e
      exact of_decide_eq_true e
    have e1 := Int.mul_pos ab.1 h2
    have e2 := Int.mul_pos ab.2 h1
    have : 0 < dot (betw prev a p b) f := Int.pos_of_mul_pos_right (a := g) (by omega) (by omega)
    rw [decide_eq_true h1, decide_eq_true this]
  · have h2 : ¬ 0 < dot prev f := by
      rw [decide_eq_false h1] at e
      exact of_decide_eq_false e
    have e1 := Int.mul_nonneg_of_nonpos_of_nonpos (a := -(b.natAbs : Int)) (b := dot prev f) (by omega) (by omega)
    have e2 := Int.mul_nonneg_of_nonpos_of_nonpos (a := -(a.natAbs : Int)) (b := dot p f) (by omega) (by omega)
    rw [Int.neg_mul] at e1 e2
    have : ¬ 0 < dot (betw prev a p b) f := fun q => by
      have := Int.mul_pos g0 q
      omega
    rw [decide_eq_false h1, decide_eq_false this]
theorem ins_chg {m : Nat} {h f : List Int} : ∀ {prev : List Int} {ps : List (List Int)}, Wt m prev → (∀ p ∈ ps, Wt m p) → chg (pos f prev) ((ins h prev ps).map (pos f)) = chg (pos f prev) (ps.map (pos f))
  | prev, [], _, _ => rfl
  | prev, p :: ps, h1, h2 => by
    have hp := h2 p (List.mem_cons_self ..)
    have ih := ins_chg (h := h) (f := f) hp fun q hq => h2 q (List.mem_cons_of_mem _ hq)
    simp only [ins]
    split
    · rename_i hc
      simp only [List.cons_append, List.nil_append, List.map_cons, chg, ih]
      by_cases e : pos f prev = pos f p
      · rw [betw_pos h1 hp hc e, nq_self]
        omega
      · cases pos f (betw prev (dot prev h) p (dot p h)) <;> cases hb : pos f prev <;> cases hd : pos f p <;> simp_all [nq]
    · simp only [List.nil_append, List.map_cons, chg, ih]
theorem lastD_mem {α : Type} {d : α} : ∀ {xs : List α}, xs ≠ [] → lastD d xs ∈ xs
  | [], h => absurd rfl h
  | [x], _ => List.mem_cons_self ..
  | x :: y :: xs, _ => List.mem_cons_of_mem _ (lastD_mem (d := x) (xs := y :: xs) (by simp))
theorem lastD_ne {α : Type} {d e : α} : ∀ {xs : List α}, xs ≠ [] → lastD d xs = lastD e xs
  | [], h => absurd rfl h
  | x :: xs, _ => rfl
theorem cut_around {m : Nat} {h f : List Int} {pts : List (List Int)} (hw : ∀ p ∈ pts, Wt m p) : around f (cutA h pts) ≤ around f pts := by
  by_cases hn : pts = []
  · subst hn
    exact Nat.le_refl _
  · have hl := hw _ (lastD_mem (d := []) hn)
    unfold around cutA
    rw [cut_ins hl hw]
    generalize hL : lastD [] pts = L at hl ⊢
    have e1 := ins_chg (h := h) (f := f) hl hw
    rw [← e1]
    have e2 := chg_filter (f := pos f) (q := fun p => decide (0 ≤ dot p h)) (c := pos f L) (xs := ins h L pts) (b := pos f L)
    have e3 : lastD (pos f L) ((ins h L pts).map (pos f)) = pos f L := by
      rw [lastD_map, ins_last hn, lastD_ne (e := []) hn, hL]
    rw [e3, nq_self] at e2
    by_cases hf : (ins h L pts).filter (fun p => decide (0 ≤ dot p h)) = []
    · rw [hf]
      exact Nat.zero_le _
    · have e4 : lastD (pos f L) (((ins h L pts).filter fun p => decide (0 ≤ dot p h)).map (pos f)) = pos f (lastD [] ((ins h L pts).filter fun p => decide (0 ≤ dot p h))) := by rw [lastD_map, lastD_ne (e := []) hf]
      rw [e4] at e2
      have e5 := chg_tri (b := pos f (lastD [] ((ins h L pts).filter fun p => decide (0 ≤ dot p h)))) (c := pos f L) (xs := ((ins h L pts).filter fun p => decide (0 ≤ dot p h)).map (pos f))
      omega
end Hs
namespace Hs
/-! ### what the cut keeps: the hull, told by functionals -/
/-- consecutive around: no crossing of the height 0 but at a point where g is above 0 -/
def Edge (h g prev p : List Int) : Prop := (dot p h * dot prev h < 0 → 0 < ((dot p h).natAbs : Int) * dot prev g + ((dot prev h).natAbs : Int) * dot p g) ∧ (dot p h = 0 → 0 < dot p g)
def EdgesL (h g prev : List Int) : List (List Int) → Prop
  | [] => True
  | p :: ps => Edge h g prev p ∧ EdgesL h g p ps
theorem edges_app {h g : List Int} : ∀ {prev : List Int} {xs ys : List (List Int)}, EdgesL h g prev (xs ++ ys) → EdgesL h g prev xs ∧ EdgesL h g (lastD prev xs) ys
  | prev, [], ys, e => ⟨trivial, e⟩
  | prev, x :: xs, ys, e => ⟨⟨e.1, (edges_app (xs := xs) e.2).1⟩, (edges_app (xs := xs) e.2).2⟩
/-- on one side of the height, with g nowhere above 0, one stays there -/
theorem walkP {h g : List Int} : ∀ {p : List Int} {xs : List (List Int)}, EdgesL h g p xs → 0 < dot p h → ¬ 0 < dot p g → (∀ q ∈ xs, ¬ 0 < dot q g) → 0 < dot (lastD p xs) h
  | p, [], _, h1, _, _ => h1
  | p, q :: xs, e, h1, h2, h3 => by
    have hq := h3 q (List.mem_cons_self ..)
    refine walkP (p := q) (xs := xs) e.2 ?_ hq fun r hr => h3 r (List.mem_cons_of_mem _ hr)
    rcases Int.lt_trichotomy (dot q h) 0 with z | z | z
    · have := e.1.1 (Int.mul_neg_of_neg_of_pos z h1)
      have e1 := Int.mul_nonneg_of_nonpos_of_nonpos (a := -((dot q h).natAbs : Int)) (b := dot p g) (by omega) (by omega)
      have e2 := Int.mul_nonneg_of_nonpos_of_nonpos (a := -((dot p h).natAbs : Int)) (b := dot q g) (by omega) (by omega)
      rw [Int.neg_mul] at e1 e2
      omega
    · exact absurd (e.1.2 z) hq
    · exact z
theorem walkN {h g : List Int} : ∀ {p : List Int} {xs : List (List Int)}, EdgesL h g p xs → dot p h < 0 → ¬ 0 < dot p g → (∀ q ∈ xs, ¬ 0 < dot q g) → dot (lastD p xs) h < 0
  | p, [], _, h1, _, _ => h1
  | p, q :: xs, e, h1, h2, h3 => by
    have hq := h3 q (List.mem_cons_self ..)
    refine walkN (p := q) (xs := xs) e.2 ?_ hq fun r hr => h3 r (List.mem_cons_of_mem _ hr)
    rcases Int.lt_trichotomy (dot q h) 0 with z | z | z
    · exact z
    · exact absurd (e.1.2 z) hq
    · have := e.1.1 (Int.mul_neg_of_pos_of_neg z h1)
      have e1 := Int.mul_nonneg_of_nonpos_of_nonpos (a := -((dot q h).natAbs : Int)) (b := dot p g) (by omega) (by omega)
      have e2 := Int.mul_nonneg_of_nonpos_of_nonpos (a := -((dot p h).natAbs : Int)) (b := dot q g) (by omega) (by omega)
      rw [Int.neg_mul] at e1 e2
      omega
theorem chg_T : ∀ {l : List Bool}, true ∈ l → 2 ≤ chg false (l ++ [false])
  | [], h => by cases h
  | true :: l, _ => by
    simp only [List.cons_append, chg]
    have : ∀ {l : List Bool}, 1 ≤ chg true (l ++ [false]) := fun {l} => by
      induction l with
      | nil => simp [chg, nq]
      | cons x l ih =>
        simp only [List.cons_append, chg]
        cases x with
        | true => omega
        | false => simp [nq] <;> omega
    have := this (l := l)
    simp [nq]
    omega
  | false :: l, h => by
    have := chg_T (l := l) (by simpa using h)
    simp only [List.cons_append, chg]
    omega
/-- around four and more, if a and b are no T and both ways between them there is one -/
theorem four {f : List Int → Bool} {l1 l2 l3 : List (List Int)} {a b d : List Int} (ha : f a = false) (hb : f b = false) (h2 : true ∈ l2.map f) (h3 : true ∈ (l3 ++ l1).map f) : 4 ≤ chg (f (lastD d (l1 ++ a :: (l2 ++ b :: l3)))) ((l1 ++ a :: (l2 ++ b :: l3)).map f) := by
  have e0 : lastD d (l1 ++ a :: (l2 ++ b :: l3)) = lastD b l3 := by
    rw [lastD_app2]
    show lastD a (l2 ++ b :: l3) = _
    rw [lastD_app2]
    rfl
  rw [e0]
  have s1 : (l1 ++ a :: (l2 ++ b :: l3)).map f = (l1.map f ++ [f a]) ++ ((l2.map f ++ [f b]) ++ l3.map f) := by simp
  rw [s1, chg_app (xs := l1.map f ++ [f a]), lastD_app, chg_app (xs := l2.map f ++ [f b]), lastD_app, ha, hb]
  have k1 := chg_T h2
  have k2 := chg_T h3
  rw [List.map_append, List.append_assoc, chg_app (xs := l3.map f)] at k2
  have e3 : f (lastD b l3) = lastD false (l3.map f) := by rw [← hb, lastD_map]
  rw [e3]
  omega
/-- the pair: what is between a above and b below is above by f -/
theorem pair_ok {m : Nat} {h f : List Int} {pts : List (List Int)} {a b : List Int} (hfl : f.length = h.length) (hV : ∀ g : List Int, g.length = h.length → around g pts ≤ 2) (hE : EdgesL h f (lastD [] pts) pts) (ha : a ∈ pts) (hb : b ∈ pts) (h1 : 0 < dot a h) (h2 : dot b h < 0) : 0 < dot a h * dot b f - dot b h * dot a f := by
  apply Decidable.byContradiction
  intro hn
  -- the functional that is 0 at a and not above 0 at b
  have gd : ∀ w, dot w (comb f (dot a h) h (-dot a f)) = dot a h * dot w f + -dot a f * dot w h := fun w => mix_dot hfl
  have gl : (comb f (dot a h) h (-dot a f)).length = h.length := (comb_len hfl).trans hfl
  generalize comb f (dot a h) h (-dot a f) = g at gd gl
  have ga : ¬ 0 < dot a g := by
    rw [gd]
    have : dot a h * dot a f + -dot a f * dot a h = 0 := by grind
    omega
  have gb : ¬ 0 < dot b g := by
    rw [gd]
    have : dot a h * dot b f + -dot a f * dot b h = dot a h * dot b f - dot b h * dot a f := by grind
    omega
  have eg : ∀ {prev : List Int} {xs : List (List Int)}, EdgesL h f prev xs → EdgesL h g prev xs := by
    intro prev xs
    induction xs generalizing prev with
    | nil => exact fun _ => trivial
    | cons p ps ih =>
      rintro ⟨⟨c1, c2⟩, r⟩
      refine ⟨⟨fun hc => ?_, fun hz => ?_⟩, ih r⟩
      · have e := Int.mul_pos h1 (c1 hc)
        rw [gd, gd]
        have z : ((dot p h).natAbs : Int) * dot prev h + ((dot prev h).natAbs : Int) * dot p h = 0 := by
          rcases opp hc with ⟨q1, q2⟩ | ⟨q1, q2⟩
          · have e1 : ((dot p h).natAbs : Int) = dot p h := by omega
            have e2 : ((dot prev h).natAbs : Int) = -dot prev h := by omega
            rw [e1, e2]
            grind
          · have e1 : ((dot p h).natAbs : Int) = -dot p h := by omega
            have e2 : ((dot prev h).natAbs : Int) = dot prev h := by omega
            rw [e1, e2]
            grind
        generalize ((dot p h).natAbs : Int) = x at e z ⊢
        generalize ((dot prev h).natAbs : Int) = y at e z ⊢
        have : x * (dot a h * dot prev f + -dot a f * dot prev h) + y * (dot a h * dot p f + -dot a f * dot p h) = dot a h * (x * dot prev f + y * dot p f) + -dot a f * (x * dot prev h + y * dot p h) := by grind
        rw [this, z, Int.mul_zero]
        omega
      · have e := Int.mul_pos h1 (c2 hz)
        rw [gd, hz]
        omega
  have hE2 := eg hE
  have hV2 := hV g gl
  have fa : pos g a = false := decide_eq_false ga
  have fb : pos g b = false := decide_eq_false gb
  have tr : ∀ {xs : List (List Int)}, ¬ (∀ q ∈ xs, ¬ 0 < dot q g) → true ∈ xs.map (pos g) := fun {xs} hx => by
    refine Decidable.byContradiction fun hh => hx fun q hq hq2 => hh ?_
    exact List.mem_map.mpr ⟨q, hq, decide_eq_true hq2⟩
  have ne : a ≠ b := fun z => by
    rw [z] at h1
    omega
  obtain ⟨l1, r, rfl⟩ := List.append_of_mem ha
  unfold around at hV2
  -- the cut at a: b stands ahead of it or behind
  rcases List.mem_append.mp hb with hb1 | hb1
  · obtain ⟨m1, m2, rfl⟩ := List.append_of_mem hb1
    -- m1 ++ b :: (m2 ++ a :: r)
    have sh : m1 ++ b :: m2 ++ a :: r = m1 ++ b :: (m2 ++ a :: r) := by simp
    rw [sh] at hV2 hE2
    have k := edges_app hE2
    have k2 := edges_app (xs := m2) k.2.2
    have hl : lastD [] (m1 ++ b :: (m2 ++ a :: r)) = lastD a r := by
      rw [lastD_app2]
      show lastD b (m2 ++ a :: r) = _
      rw [lastD_app2]
      rfl
    have t2 : true ∈ m2.map (pos g) := tr fun hx => by
      have := walkN k2.1 h2 gb hx
      have q := k2.2.1.1
      have w := walkN (p := b) (xs := m2 ++ [a]) (by
        have := edges_app (xs := m2 ++ [a]) (ys := r) (prev := b) (h := h) (g := g) (by rw [List.append_assoc]; exact k.2.2)
        exact this.1) h2 gb (fun q hq => by
          rcases List.mem_append.mp hq with hq | hq
          · exact hx q hq
          · rw [List.mem_singleton.mp hq]
            exact ga)
      rw [lastD_app] at w
      omega
    have t3 : true ∈ (r ++ m1).map (pos g) := tr fun hx => by
      have w1 := walkP (p := a) (xs := r) k2.2.2 h1 ga fun q hq => hx q (List.mem_append_left _ hq)
      have ng : ¬ 0 < dot (lastD a r) g := by
        by_cases hr : r = []
        · rw [hr]
          exact ga
        · exact hx _ (List.mem_append_left _ (lastD_mem hr))
      have k0 : EdgesL h g (lastD a r) (m1 ++ [b]) := by
        rw [hl] at hE2
        have := edges_app (xs := m1 ++ [b]) (ys := m2 ++ a :: r) (h := h) (g := g) (prev := lastD a r) (by rw [List.append_assoc]; exact hE2)
        exact this.1
      have w2 := walkP k0 w1 ng fun q hq => by
        rcases List.mem_append.mp hq with hq | hq
        · exact hx q (List.mem_append_right _ hq)
        · rw [List.mem_singleton.mp hq]
          exact gb
      rw [lastD_app] at w2
      omega
    have := four (f := pos g) (d := []) fb fa t2 t3
    omega
  · have hb2 : b ∈ r := by
      rcases List.mem_cons.mp hb1 with q | q
      · exact absurd q.symm ne
      · exact q
    obtain ⟨m2, m3, rfl⟩ := List.append_of_mem hb2
    have k := edges_app hE2
    have k2 := edges_app (xs := m2) k.2.2
    have hl : lastD [] (l1 ++ a :: (m2 ++ b :: m3)) = lastD b m3 := by
      rw [lastD_app2]
      show lastD a (m2 ++ b :: m3) = _
      rw [lastD_app2]
      rfl
    have t2 : true ∈ m2.map (pos g) := tr fun hx => by
      have w := walkP (p := a) (xs := m2 ++ [b]) (by
        have := edges_app (xs := m2 ++ [b]) (ys := m3) (prev := a) (h := h) (g := g) (by rw [List.append_assoc]; exact k.2.2)
        exact this.1) h1 ga (fun q hq => by
          rcases List.mem_append.mp hq with hq | hq
          · exact hx q hq
          · rw [List.mem_singleton.mp hq]
            exact gb)
      rw [lastD_app] at w
      omega
    have t3 : true ∈ (m3 ++ l1).map (pos g) := tr fun hx => by
      have w1 := walkN (p := b) (xs := m3) k2.2.2 h2 gb fun q hq => hx q (List.mem_append_left _ hq)
      have ng : ¬ 0 < dot (lastD b m3) g := by
        by_cases hr : m3 = []
        · rw [hr]
          exact gb
        · exact hx _ (List.mem_append_left _ (lastD_mem hr))
      have k0 : EdgesL h g (lastD b m3) (l1 ++ [a]) := by
        rw [hl] at hE2
        have := edges_app (xs := l1 ++ [a]) (ys := m2 ++ b :: m3) (h := h) (g := g) (prev := lastD b m3) (by rw [List.append_assoc]; exact hE2)
        exact this.1
      have w2 := walkN k0 w1 ng fun q hq => by
        rcases List.mem_append.mp hq with hq | hq
        · exact hx q (List.mem_append_right _ hq)
        · rw [List.mem_singleton.mp hq]
          exact ga
      rw [lastD_app] at w2
      omega
    have := four (f := pos g) (d := []) fa fb t2 t3
    omega
end Hs
namespace Hs
theorem ratio_trans {fa fb fc ha hb hc : Int} (p : 0 < hb) (pa : 0 < ha) (pc : 0 < hc) (h1 : fa * hb ≤ fb * ha) (h2 : fb * hc ≤ fc * hb) : fa * hc ≤ fc * ha := by
  have e1 := Int.mul_le_mul_of_nonneg_right h1 (Int.le_of_lt pc)
  have e2 := Int.mul_le_mul_of_nonneg_right h2 (Int.le_of_lt pa)
  have e3 : hb * (fa * hc) ≤ hb * (fc * ha) := by
    have q1 : hb * (fa * hc) = fa * hb * hc := by grind
    have q2 : hb * (fc * ha) = fc * hb * ha := by grind
    have q3 : fb * ha * hc = fb * hc * ha := by grind
    omega
  exact Int.le_of_mul_le_mul_left e3 p
/-- among those above the height 0 one of the least f by h -/
theorem least_ratio {f h : List Int → Int} : ∀ {pts : List (List Int)}, (∃ a ∈ pts, 0 < h a) → ∃ a ∈ pts, 0 < h a ∧ ∀ b ∈ pts, 0 < h b → f a * h b ≤ f b * h a
  | [], ⟨a, q, _⟩ => by cases q
  | x :: pts, _ => by
    by_cases hx : ∃ a ∈ pts, 0 < h a
    · obtain ⟨a, q1, q2, q3⟩ := least_ratio (f := f) hx
      by_cases hx1 : 0 < h x
      · by_cases hx2 : f x * h a ≤ f a * h x
        · refine ⟨x, List.mem_cons_self .., hx1, fun b hb hb1 => ?_⟩
          rcases List.mem_cons.mp hb with rfl | hb
          · exact Int.le_refl _
          · exact ratio_trans q2 hx1 hb1 hx2 (q3 b hb hb1)
        · refine ⟨a, List.mem_cons_of_mem _ q1, q2, fun b hb hb1 => ?_⟩
          rcases List.mem_cons.mp hb with rfl | hb
          · omega
          · exact q3 b hb hb1
      · refine ⟨a, List.mem_cons_of_mem _ q1, q2, fun b hb hb1 => ?_⟩
        rcases List.mem_cons.mp hb with rfl | hb
        · exact absurd hb1 hx1
        · exact q3 b hb hb1
    · rename_i hh
      obtain ⟨a, q1, q2⟩ := hh
      rcases List.mem_cons.mp q1 with rfl | q1
      · refine ⟨a, List.mem_cons_self .., q2, fun b hb hb1 => ?_⟩
        rcases List.mem_cons.mp hb with rfl | hb
        · exact Int.le_refl _
        · exact absurd ⟨b, hb, hb1⟩ hx
      · exact absurd ⟨a, q1, q2⟩ hx
theorem big {f : List Int → Int} : ∀ pts : List (List Int), ∃ N : Int, 0 < N ∧ ∀ p ∈ pts, -f p < N
  | [] => ⟨1, by decide, fun p hp => by cases hp⟩
  | x :: pts => by
    obtain ⟨N, n0, hN⟩ := big (f := f) pts
    refine ⟨N + (f x).natAbs + 1, by omega, fun p hp => ?_⟩
    rcases List.mem_cons.mp hp with rfl | hp
    · omega
    · have := hN p hp
      omega
theorem cutL_mem {h x : List Int} : ∀ {prev : List Int} {ps : List (List Int)}, x ∈ cutL h prev ps → (x ∈ ps ∧ 0 ≤ dot x h) ∨ ∃ q ∈ prev :: ps, ∃ p ∈ ps, dot p h * dot q h < 0 ∧ x = betw q (dot q h) p (dot p h)
  | prev, [], hx => by cases hx
  | prev, p :: ps, hx => by
    rcases List.mem_append.mp hx with hx | hx
    · rcases List.mem_append.mp hx with hx | hx
      · split at hx
        · rename_i hc
          exact .inr ⟨prev, List.mem_cons_self .., p, List.mem_cons_self .., hc, List.mem_singleton.mp hx⟩
        · cases hx
      · split at hx
        · rename_i hc
          rw [List.mem_singleton.mp hx]
          exact .inl ⟨List.mem_cons_self .., hc⟩
        · cases hx
    · rcases cutL_mem hx with ⟨q1, q2⟩ | ⟨q, q1, r, r1, q2, q3⟩
      · exact .inl ⟨List.mem_cons_of_mem _ q1, q2⟩
      · exact .inr ⟨q, List.mem_cons_of_mem _ q1, r, List.mem_cons_of_mem _ r1, q2, q3⟩
theorem cut_edges {m : Nat} {h f : List Int} : ∀ {prev : List Int} {ps : List (List Int)}, Wt m prev → (∀ p ∈ ps, Wt m p) → (∀ p ∈ cutL h prev ps, 0 < dot p f) → EdgesL h f prev ps
  | prev, [], _, _, _ => trivial
  | prev, p :: ps, h1, h2, h3 => by
    have hp := h2 p (List.mem_cons_self ..)
    refine ⟨⟨fun hc => ?_, fun hz => ?_⟩, cut_edges hp (fun q hq => h2 q (List.mem_cons_of_mem _ hq)) fun q hq => h3 q (List.mem_append_right _ hq)⟩
    · have := h3 (betw prev (dot prev h) p (dot p h)) (List.mem_append_left _ (List.mem_append_left _ (by rw [if_pos hc]; exact List.mem_cons_self ..)))
      obtain ⟨_, g, g0, _, k⟩ := betw_ok h1 hp hc
      rw [← k f]
      exact Int.mul_pos g0 this
    · exact h3 p (List.mem_append_left _ (List.mem_append_right _ (by rw [if_pos (by omega)]; exact List.mem_cons_self ..)))
/-- what holds of the points that are left -/
structure CutOk (m : Nat) (init hs pts : List (List Int)) : Prop where
  mem : ∀ p ∈ pts, InS m hs p
  dual : ∀ f : List Int, f.length = m → (∀ p ∈ pts, 0 < dot p f) → ∀ u, InS m hs u → 0 < dot u f
  ar : ∀ f : List Int, f.length = m → around f pts ≤ 2
  tight : ∀ p ∈ pts, p ∈ init ∨ ∃ h ∈ hs, dot p h = 0
theorem cut_ok {m : Nat} {init hs pts : List (List Int)} {h : List Int} (hm : h.length = m) (C : CutOk m init hs pts) : CutOk m init (hs ++ [h]) (cutA h pts) := by
  have hw : ∀ p ∈ pts, Wt m p := fun p hp => (C.mem p hp).1
  have memh : ∀ {u : List Int}, InS m (hs ++ [h]) u ↔ InS m hs u ∧ 0 ≤ dot u h := fun {u} => by
    constructor
    · intro q
      exact ⟨⟨q.1, fun k hk => q.2 k (List.mem_append_left _ hk)⟩, q.2 h (List.mem_append_right _ (List.mem_singleton.mpr rfl))⟩
    · intro q
      refine ⟨q.1.1, fun k hk => ?_⟩
      rcases List.mem_append.mp hk with hk | hk
      · exact q.1.2 k hk
      · rw [List.mem_singleton.mp hk]
        exact q.2
  by_cases hn : pts = []
  · subst hn
    refine ⟨fun p hp => (by cases hp), fun f hf _ u hu => ?_, fun f _ => Nat.zero_le _, fun p hp => (by cases hp)⟩
    exact C.dual f hf (fun p hp => by cases hp) u (memh.mp hu).1
  · have hlm := lastD_mem (d := []) hn
    have hl := hw _ hlm
    refine ⟨fun x hx => ?_, fun f hf hpos u hu => ?_, fun f hf => Nat.le_trans (cut_around hw) (C.ar f hf), fun x hx => ?_⟩
    · rcases cutL_mem hx with ⟨q1, q2⟩ | ⟨q, q1, p, p1, hc, rfl⟩
      · exact memh.mpr ⟨C.mem x q1, q2⟩
      · have qm : q ∈ pts := by
          rcases List.mem_cons.mp q1 with rfl | q1
          · exact hlm
          · exact q1
        obtain ⟨w, g, g0, _, k⟩ := betw_ok (hw q qm) (hw p p1) hc
        refine memh.mpr ⟨⟨w, fun j hj => ?_⟩, by rw [betw_h (hw q qm) (hw p p1) hc]; exact Int.le_refl 0⟩
        have e := k j
        have e1 := Int.mul_nonneg (a := ((dot p h).natAbs : Int)) (by omega) ((C.mem q qm).2 j hj)
        have e2 := Int.mul_nonneg (a := ((dot q h).natAbs : Int)) (by omega) ((C.mem p p1).2 j hj)
        apply Decidable.byContradiction
        intro hneg
        have := Int.mul_neg_of_pos_of_neg g0 (b := dot (betw q (dot q h) p (dot p h)) j) (by omega)
        omega
    · obtain ⟨hu1, hu2⟩ := memh.mp hu
      have hE := cut_edges hl hw hpos
      have pr := fun {a b : List Int} (ha : a ∈ pts) (hb : b ∈ pts) (q1 : 0 < dot a h) (q2 : dot b h < 0) => pair_ok (m := m) (hf.trans hm.symm) (fun g hg => C.ar g (hg.trans hm)) hE ha hb q1 q2
      have kept : ∀ p ∈ pts, 0 ≤ dot p h → 0 < dot p f := fun p hp q => by
        refine hpos p ?_
        have : ∀ {prev : List Int} {ps : List (List Int)}, p ∈ ps → p ∈ cutL h prev ps := by
          intro prev ps
          induction ps generalizing prev with
          | nil => exact fun z => by cases z
          | cons x xs ih =>
            intro z
            rcases List.mem_cons.mp z with rfl | z
            · exact List.mem_append_left _ (List.mem_append_right _ (by rw [if_pos q]; exact List.mem_cons_self ..))
            · exact List.mem_append_right _ (ih z)
        exact this hp
      obtain ⟨N, n0, hN⟩ := big (f := fun p => dot p f) pts
      apply Decidable.byContradiction
      intro hneg
      by_cases hx : ∃ a ∈ pts, 0 < dot a h
      · obtain ⟨a, a1, a2, a3⟩ := least_ratio (f := fun p => dot p f) (h := fun p => dot p h) hx
        have fa := kept a a1 (Int.le_of_lt a2)
        -- N * (h a * f - f a * h) + f
        have gd : ∀ w, dot w (comb f (N * dot a h + 1) h (-(N * dot a f))) = (N * dot a h + 1) * dot w f + -(N * dot a f) * dot w h := fun w => mix_dot (hf.trans hm.symm)
        have key : ∀ w, (N * dot a h + 1) * dot w f + -(N * dot a f) * dot w h = N * (dot a h * dot w f - dot a f * dot w h) + dot w f := fun w => by grind
        have q := C.dual (comb f (N * dot a h + 1) h (-(N * dot a f))) ((comb_len (hf.trans hm.symm)).trans hf) (fun p hp => ?_) u hu1
        · rw [gd, key] at q
          have e1 := Int.mul_nonneg_of_nonpos_of_nonpos (a := -dot a h) (b := dot u f) (by omega) (by omega)
          rw [Int.neg_mul] at e1
          have e2 := Int.mul_nonneg (Int.le_of_lt fa) hu2
          have e3 := Int.mul_nonneg_of_nonpos_of_nonpos (a := -N) (b := dot a h * dot u f - dot a f * dot u h) (by omega) (by omega)
          rw [Int.neg_mul] at e3
          omega
        · rw [gd, key]
          rcases Int.lt_trichotomy (dot p h) 0 with z | z | z
          · have e1 := pr a1 hp a2 z
            have e2 : dot a h * dot p f - dot a f * dot p h = dot a h * dot p f - dot p h * dot a f := by grind
            rw [e2]
            have e3 := Int.mul_le_mul_of_nonneg_left (c := N) (show (1 : Int) ≤ dot a h * dot p f - dot p h * dot a f by omega) (by omega)
            have e4 : -dot p f < N := hN p hp
            omega
          · have e1 := kept p hp (by omega)
            rw [z, Int.mul_zero, Int.sub_zero]
            have e2 := Int.mul_nonneg (a := N) (by omega) (Int.mul_nonneg (Int.le_of_lt a2) (Int.le_of_lt e1))
            omega
          · have e1 := kept p hp (by omega)
            have e2 : dot a f * dot p h ≤ dot p f * dot a h := a3 p hp z
            have e3 : dot p f * dot a h = dot a h * dot p f := Int.mul_comm ..
            have e4 := Int.mul_nonneg (a := N) (b := dot a h * dot p f - dot a f * dot p h) (by omega) (by omega)
            omega
      · -- none above: N * (-h) + f
        have gd : ∀ w, dot w (comb f 1 h (-N)) = 1 * dot w f + -N * dot w h := fun w => mix_dot (hf.trans hm.symm)
        have q := C.dual (comb f 1 h (-N)) ((comb_len (hf.trans hm.symm)).trans hf) (fun p hp => ?_) u hu1
        · rw [gd, Int.one_mul, Int.neg_mul] at q
          have e1 := Int.mul_nonneg (a := N) (by omega) hu2
          omega
        · rw [gd, Int.one_mul, Int.neg_mul]
          rcases Int.lt_trichotomy (dot p h) 0 with z | z | z
          · have e3 := Int.mul_le_mul_of_nonneg_left (c := N) (show (1 : Int) ≤ -dot p h by omega) (by omega)
            rw [Int.mul_neg] at e3
            have e4 : -dot p f < N := hN p hp
            omega
          · have e1 := kept p hp (by omega)
            rw [z, Int.mul_zero]
            omega
          · exact absurd ⟨p, hp, z⟩ hx
    · rcases cutL_mem hx with ⟨q1, q2⟩ | ⟨q, q1, p, p1, hc, rfl⟩
      · rcases C.tight x q1 with z | ⟨j, z1, z2⟩
        · exact .inl z
        · exact .inr ⟨j, List.mem_append_left _ z1, z2⟩
      · have qm : q ∈ pts := by
          rcases List.mem_cons.mp q1 with rfl | q1
          · exact hlm
          · exact q1
        exact .inr ⟨h, List.mem_append_right _ (List.mem_singleton.mpr rfl), betw_h (hw q qm) (hw p p1) hc⟩
/-- all cuts -/
def cutAll : List (List Int) → List (List Int) → List (List Int)
  | pts, [] => pts
  | pts, h :: hs => cutAll (cutA h pts) hs
theorem cutAll_ok {m : Nat} {init : List (List Int)} : ∀ {hs hs0 pts : List (List Int)}, (∀ h ∈ hs, h.length = m) → CutOk m init hs0 pts → CutOk m init (hs0 ++ hs) (cutAll pts hs)
  | [], hs0, pts, _, C => by
    rw [List.append_nil]
    exact C
  | h :: hs, hs0, pts, hm, C => by
    have := cutAll_ok (hs := hs) (hs0 := hs0 ++ [h]) (fun k hk => hm k (List.mem_cons_of_mem _ hk)) (cut_ok (hm h (List.mem_cons_self ..)) C)
    rw [List.append_assoc] at this
    exact this
/-! ### the corners of a piece -/
def unit2 : List (List Int) := [[1, 0], [0, 1]]
theorem start2 : CutOk 2 unit2 [] unit2 := by
  refine ⟨fun p hp => ?_, fun f hf hp u hu => ?_, fun f hf => ?_, fun p hp => .inl hp⟩
  · have e : p = [1, 0] ∨ p = [0, 1] := by simpa [unit2] using hp
    rcases e with rfl | rfl
    · exact ⟨⟨rfl, by decide, by decide⟩, fun h hh => by cases hh⟩
    · exact ⟨⟨rfl, by decide, by decide⟩, fun h hh => by cases hh⟩
  · obtain ⟨x, y, rfl⟩ : ∃ x y, f = [x, y] := match f, hf with | [x, y], _ => ⟨x, y, rfl⟩
    obtain ⟨⟨l, nn, ps⟩, _⟩ := hu
    obtain ⟨a, b, rfl⟩ : ∃ a b, u = [a, b] := match u, l with | [a, b], _ => ⟨a, b, rfl⟩
    have h1 := hp [1, 0] (by simp [unit2])
    have h2 := hp [0, 1] (by simp [unit2])
    simp [dot, ones] at h1 h2 ps ⊢
    have a0 := nn a (by simp)
    have b0 := nn b (by simp)
    have e1 := Int.mul_nonneg a0 (Int.le_of_lt h1)
    have e2 := Int.mul_nonneg b0 (Int.le_of_lt h2)
    rcases (show 0 < a ∨ 0 < b by omega) with q | q
    · have := Int.mul_pos q h1
      omega
    · have := Int.mul_pos q h2
      omega
  · have : ∀ a b : Bool, chg b [a, b] ≤ 2 := by decide
    exact this _ _
theorem cut2_ok {hs : List (List Int)} (hm : ∀ h ∈ hs, h.length = 2) : CutOk 2 unit2 hs (cutAll unit2 hs) := by
  have := cutAll_ok (hs0 := []) hm start2
  rw [List.nil_append] at this
  exact this
theorem CutOk.none_iff {m : Nat} {init hs pts : List (List Int)} (C : CutOk m init hs pts) : pts = [] ↔ ¬ ∃ u, InS m hs u := by
  constructor
  · rintro rfl ⟨u, hu⟩
    have h1 := C.dual (ones m) (by simp [ones]) (fun p hp => by cases hp) u hu
    have h2 := C.dual (comb (ones m) (-1) (ones m) 0) (by rw [comb_len rfl]; simp [ones]) (fun p hp => by cases hp) u hu
    rw [mix_dot rfl] at h2
    omega
  · intro h
    cases pts with
    | nil => rfl
    | cons p ps => exact absurd ⟨p, C.mem p (List.mem_cons_self ..)⟩ h
end Hs
namespace Hs
/-! ### pieces that meet -/
def CutP (a b c d : Pt) : Prop := (cross a b c * cross a b d < 0 ∧ cross c d a * cross c d b < 0) ∨ OnP a b c ∨ OnP a b d ∨ OnP c d a ∨ OnP c d b
instance (a b c d : Pt) : Decidable (CutP a b c d) := by
  unfold CutP
  infer_instance
def Meet (a b c d : Pt) : Prop := ∃ w0 w1 v0 v1 : Int, 0 ≤ w0 ∧ 0 ≤ w1 ∧ 0 ≤ v0 ∧ 0 ≤ v1 ∧ 0 < w0 + w1 ∧ w0 + w1 = v0 + v1 ∧ w0 * a.1 + w1 * b.1 = v0 * c.1 + v1 * d.1 ∧ w0 * a.2 + w1 * b.2 = v0 * c.2 + v1 * d.2
def BoxM (p q : Blk) : Prop := p.left ≤ q.right ∧ q.left ≤ p.right ∧ p.low ≤ q.high ∧ q.low ≤ p.high
instance (p q : Blk) : Decidable (BoxM p q) := by
  unfold BoxM
  infer_instance
def Bes (a b : Pt) (xs : List Pt) : Prop := (∀ x ∈ xs, 0 < cross a b x) ∨ (∀ x ∈ xs, cross a b x < 0)
instance (a b : Pt) (xs : List Pt) : Decidable (Bes a b xs) := by
  unfold Bes
  infer_instance
def Sat (a b c d : Pt) : Prop := BoxM (boxOf a b) (boxOf c d) ∧ ¬ Bes a b [c, d] ∧ ¬ Bes c d [a, b]
instance (a b c d : Pt) : Decidable (Sat a b c d) := by
  unfold Sat
  infer_instance
theorem mn_le (i j : Int) : mn i j ≤ i ∧ mn i j ≤ j := by
  unfold mn
  split <;> omega
theorem le_mx (i j : Int) : i ≤ mx i j ∧ j ≤ mx i j := by
  unfold mx
  split <;> omega
theorem mn_or (i j : Int) : mn i j = i ∨ mn i j = j := by
  unfold mn
  split <;> omega
theorem mx_or (i j : Int) : mx i j = i ∨ mx i j = j := by
  unfold mx
  split <;> omega
theorem Meet.symm {a b c d : Pt} (h : Meet a b c d) : Meet c d a b := by
  obtain ⟨w0, w1, v0, v1, h1, h2, h3, h4, h5, h6, h7, h8⟩ := h
  exact ⟨v0, v1, w0, w1, h3, h4, h1, h2, by omega, h6.symm, h7.symm, h8.symm⟩
/-- a point of a piece as a combination of its ends -/
theorem onp_comb {a b c : Pt} (h : OnP a b c) : ∃ w0 w1 : Int, 0 ≤ w0 ∧ 0 ≤ w1 ∧ 0 < w0 + w1 ∧ w0 * a.1 + w1 * b.1 = (w0 + w1) * c.1 ∧ w0 * a.2 + w1 * b.2 = (w0 + w1) * c.2 := by
  obtain ⟨h0, h1, h2, h3, h4⟩ := h
  obtain ⟨a1, a2⟩ := a
  obtain ⟨b1, b2⟩ := b
  obtain ⟨c1, c2⟩ := c
  unfold cross at h0
  unfold mn at h1 h3
  unfold mx at h2 h4
  simp only at h0 h1 h2 h3 h4 ⊢
  rcases Int.lt_trichotomy a1 b1 with q | q | q
  · refine ⟨b1 - c1, c1 - a1, by split at h2 <;> omega, by split at h1 <;> omega, by omega, by grind, by grind⟩
  · subst q
    have e : c1 = a1 := by split at h1 <;> split at h2 <;> omega
    subst e
    rcases Int.lt_trichotomy a2 b2 with q | q | q
    · refine ⟨b2 - c2, c2 - a2, by split at h4 <;> omega, by split at h3 <;> omega, by omega, by grind, by grind⟩
    · subst q
      have e : c2 = a2 := by split at h3 <;> split at h4 <;> omega
      subst e
      exact ⟨1, 0, by decide, by decide, by decide, by omega, by omega⟩
    · refine ⟨c2 - b2, a2 - c2, by split at h3 <;> omega, by split at h4 <;> omega, by omega, by grind, by grind⟩
  · refine ⟨c1 - b1, a1 - c1, by split at h1 <;> omega, by split at h2 <;> omega, by omega, by grind, by grind⟩
theorem onp_meet {a b c d : Pt} (h : OnP a b c) : Meet a b c d := by
  obtain ⟨w0, w1, h1, h2, h3, h4, h5⟩ := onp_comb h
  exact ⟨w0, w1, w0 + w1, 0, h1, h2, by omega, by omega, h3, by omega, by omega, by omega⟩
theorem onp_meet2 {a b c d : Pt} (h : OnP a b d) : Meet a b c d := by
  obtain ⟨w0, w1, h1, h2, h3, h4, h5⟩ := onp_comb h
  exact ⟨w0, w1, 0, w0 + w1, h1, h2, by omega, by omega, h3, by omega, by omega, by omega⟩
/-- the two ways to tell how far they turn -/
theorem turn_id (a b c d : Pt) : cross c d a - cross c d b = cross a b d - cross a b c := by
  unfold cross
  grind
theorem point_id1 (a b c d : Pt) : -cross c d b * a.1 + cross c d a * b.1 = cross a b d * c.1 - cross a b c * d.1 := by
  unfold cross
  grind
theorem point_id2 (a b c d : Pt) : -cross c d b * a.2 + cross c d a * b.2 = cross a b d * c.2 - cross a b c * d.2 := by
  unfold cross
  grind
theorem cut_meet {a b c d : Pt} (h : CutP a b c d) : Meet a b c d := by
  rcases h with ⟨h1, h2⟩ | h | h | h | h
  · have t := turn_id a b c d
    have p1 := point_id1 a b c d
    have p2 := point_id2 a b c d
    generalize cross a b c = s1 at *
    generalize cross a b d = s2 at *
    generalize cross c d a = t1 at *
    generalize cross c d b = t2 at *
    rcases opp h1 with ⟨q1, q2⟩ | ⟨q1, q2⟩
    · have r : 0 < t2 ∧ t1 < 0 := by rcases opp h2 with q | q <;> omega
      refine ⟨t2, -t1, -s2, s1, by omega, by omega, by omega, by omega, by omega, by omega, by grind, by grind⟩
    · have r : t2 < 0 ∧ 0 < t1 := by rcases opp h2 with q | q <;> omega
      refine ⟨-t2, t1, s2, -s1, by omega, by omega, by omega, by omega, by omega, by omega, by grind, by grind⟩
  · exact onp_meet h
  · exact onp_meet2 h
  · exact (onp_meet h).symm
  · exact (onp_meet2 h).symm
theorem cross_comb {a b c d : Pt} {w0 w1 v0 v1 : Int} (hk : w0 + w1 = v0 + v1) (h1 : w0 * a.1 + w1 * b.1 = v0 * c.1 + v1 * d.1) (h2 : w0 * a.2 + w1 * b.2 = v0 * c.2 + v1 * d.2) : w0 * cross c d a + w1 * cross c d b = 0 := by
  have e : w0 * cross c d a + w1 * cross c d b = (d.1 - c.1) * (w0 * a.2 + w1 * b.2 - (w0 + w1) * c.2) - (d.2 - c.2) * (w0 * a.1 + w1 * b.1 - (w0 + w1) * c.1) := by
    unfold cross
    grind
  rw [e, h1, h2, hk]
  grind
theorem nobes {x y w0 w1 : Int} (h0 : 0 ≤ w0) (h1 : 0 ≤ w1) (hk : 0 < w0 + w1) (h : w0 * x + w1 * y = 0) : ¬ (0 < x ∧ 0 < y) ∧ ¬ (x < 0 ∧ y < 0) := by
  constructor
  · rintro ⟨hx, hy⟩
    have e1 := Int.mul_nonneg h0 (Int.le_of_lt hx)
    have e2 := Int.mul_nonneg h1 (Int.le_of_lt hy)
    rcases (show 0 < w0 ∨ 0 < w1 by omega) with q | q
    · have := Int.mul_pos q hx
      omega
    · have := Int.mul_pos q hy
      omega
  · rintro ⟨hx, hy⟩
    have e1 := Int.mul_nonneg_of_nonpos_of_nonpos (a := -w0) (b := x) (by omega) (by omega)
    have e2 := Int.mul_nonneg_of_nonpos_of_nonpos (a := -w1) (b := y) (by omega) (by omega)
    rw [Int.neg_mul] at e1 e2
    rcases (show 0 < w0 ∨ 0 < w1 by omega) with q | q
    · have := Int.mul_neg_of_pos_of_neg q hx
      omega
    · have := Int.mul_neg_of_pos_of_neg q hy
      omega
theorem bes2 {a b c d : Pt} : Bes a b [c, d] ↔ (0 < cross a b c ∧ 0 < cross a b d) ∨ (cross a b c < 0 ∧ cross a b d < 0) := by
  unfold Bes
  simp
/-- a combination lies between -/
theorem comb_ge {x y m w0 w1 : Int} (h0 : 0 ≤ w0) (h1 : 0 ≤ w1) (hx : m ≤ x) (hy : m ≤ y) : (w0 + w1) * m ≤ w0 * x + w1 * y := by
  have e1 := Int.mul_le_mul_of_nonneg_left hx h0
  have e2 := Int.mul_le_mul_of_nonneg_left hy h1
  rw [Int.add_mul]
  omega
theorem comb_le {x y m w0 w1 : Int} (h0 : 0 ≤ w0) (h1 : 0 ≤ w1) (hx : x ≤ m) (hy : y ≤ m) : w0 * x + w1 * y ≤ (w0 + w1) * m := by
  have e1 := Int.mul_le_mul_of_nonneg_left hx h0
  have e2 := Int.mul_le_mul_of_nonneg_left hy h1
  rw [Int.add_mul]
  omega
theorem meet_sat {a b c d : Pt} (h : Meet a b c d) : Sat a b c d := by
  obtain ⟨w0, w1, v0, v1, h1, h2, h3, h4, h5, h6, h7, h8⟩ := h
  have n1 := nobes h1 h2 h5 (cross_comb h6 h7 h8)
  have n2 := nobes h3 h4 (by omega) (cross_comb h6.symm h7.symm h8.symm)
  refine ⟨?_, fun z => ?_, fun z => ?_⟩
  · have a1 := comb_ge h1 h2 (mn_le a.1 b.1).1 (mn_le a.1 b.1).2
    have a2 := comb_le h1 h2 (le_mx a.1 b.1).1 (le_mx a.1 b.1).2
    have a3 := comb_ge h1 h2 (mn_le a.2 b.2).1 (mn_le a.2 b.2).2
    have a4 := comb_le h1 h2 (le_mx a.2 b.2).1 (le_mx a.2 b.2).2
    have b1 := comb_ge h3 h4 (mn_le c.1 d.1).1 (mn_le c.1 d.1).2
    have b2 := comb_le h3 h4 (le_mx c.1 d.1).1 (le_mx c.1 d.1).2
    have b3 := comb_ge h3 h4 (mn_le c.2 d.2).1 (mn_le c.2 d.2).2
    have b4 := comb_le h3 h4 (le_mx c.2 d.2).1 (le_mx c.2 d.2).2
    rw [← h6] at b1 b2 b3 b4
    generalize w0 + w1 = k at *
    refine ⟨?_, ?_, ?_, ?_⟩
    · exact Int.le_of_mul_le_mul_left (show k * mn a.1 b.1 ≤ k * mx c.1 d.1 by omega) h5
    · exact Int.le_of_mul_le_mul_left (show k * mn c.1 d.1 ≤ k * mx a.1 b.1 by omega) h5
    · exact Int.le_of_mul_le_mul_left (show k * mn a.2 b.2 ≤ k * mx c.2 d.2 by omega) h5
    · exact Int.le_of_mul_le_mul_left (show k * mn c.2 d.2 ≤ k * mx a.2 b.2 by omega) h5
  · rcases bes2.mp z with q | q
    · exact n2.1 q
    · exact n2.2 q
  · rcases bes2.mp z with q | q
    · exact n1.1 q
    · exact n1.2 q
/-- on the straight line, between in one direction, where that has some length: between in the other -/
theorem betw_axis {p q P Q : Int} (hp : p ≠ 0) (h : p * Q = P * q) (h1 : (0 ≤ q ∧ q ≤ p) ∨ (p ≤ q ∧ q ≤ 0)) : (0 ≤ Q ∧ Q ≤ P) ∨ (P ≤ Q ∧ Q ≤ 0) := by
  rcases h1 with ⟨h1, h2⟩ | ⟨h1, h2⟩
  · have pp : 0 < p := by omega
    rcases Int.le_total 0 P with hP | hP
    · refine .inl ⟨?_, ?_⟩
      · have := Int.mul_nonneg hP h1
        exact Int.nonneg_of_mul_nonneg_right (by rw [h]; exact this) pp
      · have := Int.mul_le_mul_of_nonneg_left h2 hP
        exact Int.le_of_mul_le_mul_left (by rw [h, Int.mul_comm p P]; exact this) pp
    · refine .inr ⟨?_, ?_⟩
      · have := Int.mul_le_mul_of_nonneg_left h2 (show 0 ≤ -P by omega)
        rw [Int.neg_mul, Int.neg_mul] at this
        exact Int.le_of_mul_le_mul_left (show p * P ≤ p * Q by rw [h, Int.mul_comm p P]; omega) pp
      · have := Int.mul_nonneg (show 0 ≤ -P by omega) h1
        rw [Int.neg_mul] at this
        exact Int.le_of_mul_le_mul_left (show p * Q ≤ p * 0 by rw [h, Int.mul_zero]; omega) pp
  · have pp : 0 < -p := by omega
    rcases Int.le_total 0 P with hP | hP
    · refine .inl ⟨?_, ?_⟩
      · have := Int.mul_nonneg hP (show 0 ≤ -q by omega)
        rw [Int.mul_neg] at this
        exact Int.nonneg_of_mul_nonneg_right (a := -p) (by rw [Int.neg_mul, h]; exact this) pp
      · have := Int.mul_le_mul_of_nonneg_left (show -q ≤ -p by omega) hP
        rw [Int.mul_neg, Int.mul_neg] at this
        exact Int.le_of_mul_le_mul_left (show -p * Q ≤ -p * P by rw [Int.neg_mul, Int.neg_mul, h, Int.mul_comm p P]; omega) pp
    · refine .inr ⟨?_, ?_⟩
      · have := Int.mul_le_mul_of_nonneg_left (show -q ≤ -p by omega) (show 0 ≤ -P by omega)
        have e1 : -P * -q = P * q := by grind
        have e2 : -P * -p = P * p := by grind
        rw [e1, e2] at this
        exact Int.le_of_mul_le_mul_left (show -p * P ≤ -p * Q by rw [Int.neg_mul, Int.neg_mul, h, Int.mul_comm p P]; omega) pp
      · have := Int.mul_nonneg (show 0 ≤ -P by omega) (show 0 ≤ -q by omega)
        have e1 : -P * -q = P * q := by grind
        rw [e1] at this
        exact Int.le_of_mul_le_mul_left (show -p * Q ≤ -p * 0 by rw [Int.neg_mul, h, Int.mul_zero]; omega) pp
theorem mnmx {a b c : Int} : (mn a b ≤ c ∧ c ≤ mx a b) ↔ (0 ≤ c - a ∧ c - a ≤ b - a) ∨ (b - a ≤ c - a ∧ c - a ≤ 0) := by
  unfold mn mx
  split <;> split <;> omega
theorem onp_axis {a b c : Pt} (h0 : cross a b c = 0) (hn : a.1 ≠ b.1) (h : mn a.1 b.1 ≤ c.1 ∧ c.1 ≤ mx a.1 b.1) : OnP a b c := by
  have e : (b.1 - a.1) * (c.2 - a.2) = (b.2 - a.2) * (c.1 - a.1) := by
    unfold cross at h0
    omega
  have := mnmx.mpr (betw_axis (by omega) e (mnmx.mp h))
  exact ⟨h0, h.1, h.2, this.1, this.2⟩
theorem onp_axis2 {a b c : Pt} (h0 : cross a b c = 0) (hn : a.2 ≠ b.2) (h : mn a.2 b.2 ≤ c.2 ∧ c.2 ≤ mx a.2 b.2) : OnP a b c := by
  have e : (b.2 - a.2) * (c.1 - a.1) = (b.1 - a.1) * (c.2 - a.2) := by
    unfold cross at h0
    omega
  have := mnmx.mpr (betw_axis (by omega) e (mnmx.mp h))
  exact ⟨h0, this.1, this.2, h.1, h.2⟩
theorem over {p q r s : Int} (h1 : mn p q ≤ mx r s) (h2 : mn r s ≤ mx p q) : (mn p q ≤ r ∧ r ≤ mx p q) ∨ (mn p q ≤ s ∧ s ≤ mx p q) ∨ (r ≠ s ∧ ((mn r s ≤ p ∧ p ≤ mx r s) ∨ (mn r s ≤ q ∧ q ≤ mx r s))) := by
  unfold mn mx at *
  split at h1 <;> split at h1 <;> split at h2 <;> split at h2 <;> (try split) <;> (try split) <;> omega
/-- where a convex combination of a, b is d times c: c is on the piece -/
theorem comb_onp {a b c : Pt} {w0 w1 : Int} (h0 : 0 ≤ w0) (h1 : 0 ≤ w1) (hk : 0 < w0 + w1) (e1 : w0 * a.1 + w1 * b.1 = (w0 + w1) * c.1) (e2 : w0 * a.2 + w1 * b.2 = (w0 + w1) * c.2) : OnP a b c := by
  have a1 := comb_ge h0 h1 (mn_le a.1 b.1).1 (mn_le a.1 b.1).2
  have a2 := comb_le h0 h1 (le_mx a.1 b.1).1 (le_mx a.1 b.1).2
  have a3 := comb_ge h0 h1 (mn_le a.2 b.2).1 (mn_le a.2 b.2).2
  have a4 := comb_le h0 h1 (le_mx a.2 b.2).1 (le_mx a.2 b.2).2
  rw [e1] at a1 a2
  rw [e2] at a3 a4
  refine ⟨?_, Int.le_of_mul_le_mul_left a1 hk, Int.le_of_mul_le_mul_left a2 hk, Int.le_of_mul_le_mul_left a3 hk, Int.le_of_mul_le_mul_left a4 hk⟩
  have z : (w0 + w1) * cross a b c = 0 := by
    have : (w0 + w1) * cross a b c = (b.1 - a.1) * ((w0 + w1) * c.2 - (w0 + w1) * a.2) - (b.2 - a.2) * ((w0 + w1) * c.1 - (w0 + w1) * a.1) := by
      unfold cross
      grind
    rw [this, ← e1, ← e2]
    grind
  rcases Int.mul_eq_zero.mp z with q | q
  · omega
  · exact q
theorem sat_cut {a b c d : Pt} (h : Sat a b c d) : CutP a b c d := by
  obtain ⟨⟨x1, x2, y1, y2⟩, n1, n2⟩ := h
  rw [bes2] at n1 n2
  have t := turn_id a b c d
  have p1 := point_id1 a b c d
  have p2 := point_id2 a b c d
  by_cases hD : cross c d a - cross c d b = 0
  · -- all on one straight line
    have s1 : cross a b c = 0 := by omega
    have s2 : cross a b d = 0 := by omega
    have t1 : cross c d a = 0 := by omega
    have t2 : cross c d b = 0 := by omega
    have ox := over x1 x2
    have oy := over y1 y2
    by_cases ha : a.1 = b.1
    · by_cases hb : a.2 = b.2
      · -- a is b
        by_cases hc : c.1 = d.1
        · by_cases hd : c.2 = d.2
          · refine .inr (.inl ⟨s1, ?_⟩)
            show mn a.1 b.1 ≤ c.1 ∧ c.1 ≤ mx a.1 b.1 ∧ mn a.2 b.2 ≤ c.2 ∧ c.2 ≤ mx a.2 b.2
            rw [← hc] at ox
            rw [← hd] at oy
            have : (boxOf a b).left = mn a.1 b.1 := rfl
            simp only [ne_eq, not_true_eq_false, false_and, or_false, or_self] at ox oy
            exact ⟨ox.1, ox.2, oy.1, oy.2⟩
          · refine .inr (.inr (.inr (.inl (onp_axis2 t1 hd ?_))))
            rw [← hb] at oy
            unfold mn mx at oy ⊢
            simp at oy ⊢
            split <;> split <;> simp_all <;> omega
        · refine .inr (.inr (.inr (.inl (onp_axis t1 hc ?_))))
          rw [← ha] at ox
          unfold mn mx at ox ⊢
          simp at ox ⊢
          split <;> split <;> simp_all <;> omega
      · rcases oy with q | q | ⟨q1, q | q⟩
        · exact .inr (.inl (onp_axis2 s1 hb q))
        · exact .inr (.inr (.inl (onp_axis2 s2 hb q)))
        · exact .inr (.inr (.inr (.inl (onp_axis2 t1 q1 q))))
        · exact .inr (.inr (.inr (.inr (onp_axis2 t2 q1 q))))
    · rcases ox with q | q | ⟨q1, q | q⟩
      · exact .inr (.inl (onp_axis s1 ha q))
      · exact .inr (.inr (.inl (onp_axis s2 ha q)))
      · exact .inr (.inr (.inr (.inl (onp_axis t1 q1 q))))
      · exact .inr (.inr (.inr (.inr (onp_axis t2 q1 q))))
  · by_cases z : cross a b c * cross a b d < 0 ∧ cross c d a * cross c d b < 0
    · exact .inl z
    · refine .inr ?_
      have key : cross a b c = 0 ∨ cross a b d = 0 ∨ cross c d a = 0 ∨ cross c d b = 0 := by
        apply Decidable.byContradiction
        intro hn
        refine z ⟨?_, ?_⟩
        · rcases (show (0 < cross a b c ∧ cross a b d < 0) ∨ (cross a b c < 0 ∧ 0 < cross a b d) by omega) with ⟨q1, q2⟩ | ⟨q1, q2⟩
          · exact Int.mul_neg_of_pos_of_neg q1 q2
          · exact Int.mul_neg_of_neg_of_pos q1 q2
        · rcases (show (0 < cross c d a ∧ cross c d b < 0) ∨ (cross c d a < 0 ∧ 0 < cross c d b) by omega) with ⟨q1, q2⟩ | ⟨q1, q2⟩
          · exact Int.mul_neg_of_pos_of_neg q1 q2
          · exact Int.mul_neg_of_neg_of_pos q1 q2
      generalize cross a b c = s1 at *
      generalize cross a b d = s2 at *
      generalize cross c d a = t1 at *
      generalize cross c d b = t2 at *
      rcases key with k | k | k | k
      · subst k
        refine .inl ?_
        rcases (show 0 < s2 ∨ s2 < 0 by omega) with q | q
        · exact comb_onp (w0 := -t2) (w1 := t1) (by omega) (by omega) (by omega) (by grind) (by grind)
        · exact comb_onp (w0 := t2) (w1 := -t1) (by omega) (by omega) (by omega) (by grind) (by grind)
      · subst k
        refine .inr (.inl ?_)
        rcases (show 0 < s1 ∨ s1 < 0 by omega) with q | q
        · exact comb_onp (w0 := t2) (w1 := -t1) (by omega) (by omega) (by omega) (by grind) (by grind)
        · exact comb_onp (w0 := -t2) (w1 := t1) (by omega) (by omega) (by omega) (by grind) (by grind)
      · subst k
        refine .inr (.inr (.inl ?_))
        rcases (show 0 < t2 ∨ t2 < 0 by omega) with q | q
        · exact comb_onp (w0 := -s2) (w1 := s1) (by omega) (by omega) (by omega) (by grind) (by grind)
        · exact comb_onp (w0 := s2) (w1 := -s1) (by omega) (by omega) (by omega) (by grind) (by grind)
      · subst k
        refine .inr (.inr (.inr ?_))
        rcases (show 0 < t1 ∨ t1 < 0 by omega) with q | q
        · exact comb_onp (w0 := s2) (w1 := -s1) (by omega) (by omega) (by omega) (by grind) (by grind)
        · exact comb_onp (w0 := -s2) (w1 := s1) (by omega) (by omega) (by omega) (by grind) (by grind)
theorem meet_iff {a b c d : Pt} : Meet a b c d ↔ CutP a b c d := ⟨fun h => sat_cut (meet_sat h), cut_meet⟩
theorem sat_iff {a b c d : Pt} : Sat a b c d ↔ CutP a b c d := ⟨sat_cut, fun h => meet_sat (cut_meet h)⟩
end Hs
namespace Hs
def rows2 (x y : List Int) : List (List Int) := List.zipWith (fun a b => [a, b]) x y
theorem rows2_len {x y : List Int} : ∀ h ∈ rows2 x y, h.length = 2 := by
  unfold rows2
  induction x generalizing y with
  | nil => intro h hh; simp at hh
  | cons a x ih =>
    cases y with
    | nil => intro h hh; simp at hh
    | cons b y =>
      intro h hh
      rw [List.zipWith_cons_cons] at hh
      rcases List.mem_cons.mp hh with rfl | hh
      · rfl
      · exact ih h hh
theorem dot2 (w0 w1 x y : Int) : dot [w0, w1] [x, y] = w0 * x + w1 * y := by simp [dot]
theorem wt2 {u : List Int} (h : Wt 2 u) : ∃ w0 w1, u = [w0, w1] ∧ 0 ≤ w0 ∧ 0 ≤ w1 ∧ 0 < w0 + w1 := by
  obtain ⟨l, nn, ps⟩ := h
  obtain ⟨a, b, rfl⟩ : ∃ a b, u = [a, b] := match u, l with | [a, b], _ => ⟨a, b, rfl⟩
  simp [dot, ones] at ps
  exact ⟨a, b, rfl, nn a (by simp), nn b (by simp), ps⟩
theorem wt2_of {w0 w1 : Int} (h0 : 0 ≤ w0) (h1 : 0 ≤ w1) (h : 0 < w0 + w1) : Wt 2 [w0, w1] := by
  refine ⟨rfl, fun x hx => ?_, by simp [dot, ones]; exact h⟩
  have : x = w0 ∨ x = w1 := by simpa using hx
  rcases this with rfl | rfl <;> assumption
theorem mn_scale {k i j : Int} (hk : 0 < k) : mn (k * i) (k * j) = k * mn i j := by
  unfold mn
  by_cases h : j < i
  · rw [if_pos h, if_pos (Int.mul_lt_mul_of_pos_left h hk)]
  · rw [if_neg h, if_neg (fun q => h (Int.lt_of_mul_lt_mul_left q (Int.le_of_lt hk)))]
theorem mx_scale {k i j : Int} (hk : 0 < k) : mx (k * i) (k * j) = k * mx i j := by
  unfold mx
  by_cases h : j > i
  · rw [if_pos h, if_pos (Int.mul_lt_mul_of_pos_left h hk)]
  · rw [if_neg h, if_neg (fun q => h (Int.lt_of_mul_lt_mul_left q (Int.le_of_lt hk)))]
theorem ins_phts {a b c d : Pt} {w0 w1 : Int} : InS 2 (rows2 (phts c d a) (phts c d b)) [w0, w1] ↔ Wt 2 [w0, w1] ∧ OnP ((w0 + w1) * c.1, (w0 + w1) * c.2) ((w0 + w1) * d.1, (w0 + w1) * d.2) (w0 * a.1 + w1 * b.1, w0 * a.2 + w1 * b.2) := by
  unfold InS
  refine and_congr_right fun hw => ?_
  obtain ⟨x, y, e, h0, h1, hk⟩ := wt2 hw
  injection e with e1 e2
  injection e2 with e2 _
  subst e1 e2
  have cr : cross ((w0 + w1) * c.1, (w0 + w1) * c.2) ((w0 + w1) * d.1, (w0 + w1) * d.2) (w0 * a.1 + w1 * b.1, w0 * a.2 + w1 * b.2) = (w0 + w1) * (w0 * cross c d a + w1 * cross c d b) := by
    unfold cross
    grind
  have crz : cross ((w0 + w1) * c.1, (w0 + w1) * c.2) ((w0 + w1) * d.1, (w0 + w1) * d.2) (w0 * a.1 + w1 * b.1, w0 * a.2 + w1 * b.2) = 0 ↔ w0 * cross c d a + w1 * cross c d b = 0 := by
    rw [cr]
    constructor
    · intro q
      rcases Int.mul_eq_zero.mp q with q | q
      · omega
      · exact q
    · intro q
      rw [q, Int.mul_zero]
  unfold OnP
  rw [crz]
  simp only [mn_scale hk, mx_scale hk]
  simp only [rows2, phts, hts, boxOf, List.zipWith_cons_cons, List.zipWith_nil_left, List.mem_cons, List.not_mem_nil, or_false, forall_eq_or_imp, forall_eq, dot2]
  generalize mn c.1 d.1 = l
  generalize mx c.1 d.1 = r
  generalize mn c.2 d.2 = lo
  generalize mx c.2 d.2 = hi
  generalize cross c d a = s
  generalize cross c d b = t
  have e1 : w0 * (a.1 - l) + w1 * (b.1 - l) = (w0 * a.1 + w1 * b.1) - (w0 + w1) * l := by grind
  have e2 : w0 * (r - a.1) + w1 * (r - b.1) = (w0 + w1) * r - (w0 * a.1 + w1 * b.1) := by grind
  have e3 : w0 * (a.2 - lo) + w1 * (b.2 - lo) = (w0 * a.2 + w1 * b.2) - (w0 + w1) * lo := by grind
  have e4 : w0 * (hi - a.2) + w1 * (hi - b.2) = (w0 + w1) * hi - (w0 * a.2 + w1 * b.2) := by grind
  rw [e1, e2, e3, e4, Int.mul_neg, Int.mul_neg]
  constructor
  · rintro ⟨q1, q2, q3, q4, q5, q6⟩
    exact ⟨by omega, by omega, by omega, by omega, by omega⟩
  · rintro ⟨q1, q3, q4, q5, q6⟩
    exact ⟨by omega, by omega, by omega, by omega, by omega, by omega⟩
theorem ins_meet {a b c d : Pt} : (∃ u, InS 2 (rows2 (phts c d a) (phts c d b)) u) ↔ Meet a b c d := by
  constructor
  · rintro ⟨u, hu⟩
    obtain ⟨w0, w1, rfl, h0, h1, hk⟩ := wt2 hu.1
    obtain ⟨_, o⟩ := ins_phts.mp hu
    obtain ⟨v0, v1, g0, g1, gk, e1, e2⟩ := onp_comb o
    simp only at e1 e2
    refine ⟨w0 * (v0 + v1), w1 * (v0 + v1), v0 * (w0 + w1), v1 * (w0 + w1), Int.mul_nonneg h0 (by omega), Int.mul_nonneg h1 (by omega), Int.mul_nonneg g0 (by omega), Int.mul_nonneg g1 (by omega), ?_, by grind, by grind, by grind⟩
    have : 0 < (w0 + w1) * (v0 + v1) := Int.mul_pos hk gk
    rw [Int.add_mul] at this
    exact this
  · rintro ⟨w0, w1, v0, v1, h0, h1, g0, g1, hk, hs, e1, e2⟩
    refine ⟨[w0, w1], ins_phts.mpr ⟨wt2_of h0 h1 hk, ?_⟩⟩
    refine comb_onp (w0 := v0) (w1 := v1) g0 g1 (by omega) ?_ ?_
    · simp only
      grind
    · simp only
      grind
theorem none_cut {a b c d : Pt} : cutAll unit2 (rows2 (phts c d a) (phts c d b)) = [] ↔ ¬ CutP a b c d := by
  rw [(cut2_ok rows2_len).none_iff, ins_meet, meet_iff]
theorem cutp_symm {a b c d : Pt} : CutP c d a b ↔ CutP a b c d := by
  rw [← meet_iff, ← meet_iff]
  exact ⟨Meet.symm, Meet.symm⟩
theorem Meet.flip {a b c d : Pt} (h : Meet a b c d) : Meet b a c d := by
  obtain ⟨w0, w1, v0, v1, h1, h2, h3, h4, h5, h6, h7, h8⟩ := h
  exact ⟨w1, w0, v0, v1, h2, h1, h3, h4, by omega, by omega, by omega, by omega⟩
theorem cutp_flip {a b c d : Pt} : CutP b a c d ↔ CutP a b c d := by
  rw [← meet_iff, ← meet_iff]
  exact ⟨Meet.flip, Meet.flip⟩
end Hs
namespace Hs
/-! ### blocks and pieces -/
def Vb (B : Blk) : Prop := B.left ≤ B.right ∧ B.low ≤ B.high
def InB (B : Blk) (x : Pt) : Prop := (B.left ≤ x.1 ∧ x.1 ≤ B.right) ∧ B.low ≤ x.2 ∧ x.2 ≤ B.high
instance (B : Blk) (x : Pt) : Decidable (InB B x) := by
  unfold InB
  infer_instance
def corners (B : Blk) : List Pt := [(B.left, B.low), (B.right, B.low), (B.right, B.high), (B.left, B.high)]
def Hits (B : Blk) (a b : Pt) : Prop := InB B a ∨ InB B b ∨ CutP a b (B.left, B.high) (B.left, B.low) ∨ CutP a b (B.left, B.low) (B.right, B.low) ∨ CutP a b (B.right, B.low) (B.right, B.high) ∨ CutP a b (B.right, B.high) (B.left, B.high)
instance (B : Blk) (a b : Pt) : Decidable (Hits B a b) := by
  unfold Hits
  infer_instance
def InK (B : Blk) (k X Y : Int) : Prop := (k * B.left ≤ X ∧ X ≤ k * B.right) ∧ k * B.low ≤ Y ∧ Y ≤ k * B.high
def MeetB (B : Blk) (a b : Pt) : Prop := ∃ w0 w1 : Int, 0 ≤ w0 ∧ 0 ≤ w1 ∧ 0 < w0 + w1 ∧ InK B (w0 + w1) (w0 * a.1 + w1 * b.1) (w0 * a.2 + w1 * b.2)
def SatB (B : Blk) (a b : Pt) : Prop := BoxM B (boxOf a b) ∧ ¬ Bes a b (corners B)
instance (B : Blk) (a b : Pt) : Decidable (SatB B a b) := by
  unfold SatB
  infer_instance
theorem ins_hts {B : Blk} {a b : Pt} {w0 w1 : Int} : InS 2 (rows2 (hts B a) (hts B b)) [w0, w1] ↔ Wt 2 [w0, w1] ∧ InK B (w0 + w1) (w0 * a.1 + w1 * b.1) (w0 * a.2 + w1 * b.2) := by
  unfold InS
  refine and_congr_right fun hw => ?_
  unfold InK
  simp only [rows2, hts, List.zipWith_cons_cons, List.zipWith_nil_left, List.mem_cons, List.not_mem_nil, or_false, forall_eq_or_imp, forall_eq, dot2]
  have e1 : w0 * (a.1 - B.left) + w1 * (b.1 - B.left) = (w0 * a.1 + w1 * b.1) - (w0 + w1) * B.left := by grind
  have e2 : w0 * (B.right - a.1) + w1 * (B.right - b.1) = (w0 + w1) * B.right - (w0 * a.1 + w1 * b.1) := by grind
  have e3 : w0 * (a.2 - B.low) + w1 * (b.2 - B.low) = (w0 * a.2 + w1 * b.2) - (w0 + w1) * B.low := by grind
  have e4 : w0 * (B.high - a.2) + w1 * (B.high - b.2) = (w0 + w1) * B.high - (w0 * a.2 + w1 * b.2) := by grind
  rw [e1, e2, e3, e4]
  constructor
  · rintro ⟨q1, q2, q3, q4⟩
    exact ⟨⟨by omega, by omega⟩, by omega, by omega⟩
  · rintro ⟨⟨q1, q2⟩, q3, q4⟩
    exact ⟨by omega, by omega, by omega, by omega⟩
theorem ins_meetB {B : Blk} {a b : Pt} : (∃ u, InS 2 (rows2 (hts B a) (hts B b)) u) ↔ MeetB B a b := by
  constructor
  · rintro ⟨u, hu⟩
    obtain ⟨w0, w1, rfl, h0, h1, hk⟩ := wt2 hu.1
    exact ⟨w0, w1, h0, h1, hk, (ins_hts.mp hu).2⟩
  · rintro ⟨w0, w1, h0, h1, hk, h⟩
    exact ⟨[w0, w1], ins_hts.mpr ⟨wt2_of h0 h1 hk, h⟩⟩
theorem none_meetB {B : Blk} {a b : Pt} : cutAll unit2 (rows2 (hts B a) (hts B b)) = [] ↔ ¬ MeetB B a b := by rw [(cut2_ok rows2_len).none_iff, ins_meetB]
theorem inb_meet {B : Blk} {a b : Pt} (h : InB B a) : MeetB B a b := by
  obtain ⟨⟨h1, h2⟩, h3, h4⟩ := h
  exact ⟨1, 0, by decide, by decide, by decide, ⟨by omega, by omega⟩, by omega, by omega⟩
theorem inb_meet2 {B : Blk} {a b : Pt} (h : InB B b) : MeetB B a b := by
  obtain ⟨⟨h1, h2⟩, h3, h4⟩ := h
  exact ⟨0, 1, by decide, by decide, by decide, ⟨by omega, by omega⟩, by omega, by omega⟩
theorem meet_in {B : Blk} {a b c d : Pt} (h : Meet a b c d) (hc : InB B c) (hd : InB B d) : MeetB B a b := by
  obtain ⟨w0, w1, v0, v1, h0, h1, g0, g1, hk, hs, e1, e2⟩ := h
  obtain ⟨⟨c1, c2⟩, c3, c4⟩ := hc
  obtain ⟨⟨d1, d2⟩, d3, d4⟩ := hd
  refine ⟨w0, w1, h0, h1, hk, ?_⟩
  rw [e1, e2, hs]
  exact ⟨⟨comb_ge g0 g1 c1 d1, comb_le g0 g1 c2 d2⟩, comb_ge g0 g1 c3 d3, comb_le g0 g1 c4 d4⟩
theorem hits_meet {B : Blk} (hv : Vb B) {a b : Pt} (h : Hits B a b) : MeetB B a b := by
  obtain ⟨v1, v2⟩ := hv
  have k1 : InB B (B.left, B.low) := ⟨⟨Int.le_refl _, v1⟩, Int.le_refl _, v2⟩
  have k2 : InB B (B.right, B.low) := ⟨⟨v1, Int.le_refl _⟩, Int.le_refl _, v2⟩
  have k3 : InB B (B.right, B.high) := ⟨⟨v1, Int.le_refl _⟩, v2, Int.le_refl _⟩
  have k4 : InB B (B.left, B.high) := ⟨⟨Int.le_refl _, v1⟩, v2, Int.le_refl _⟩
  rcases h with h | h | h | h | h | h
  · exact inb_meet h
  · exact inb_meet2 h
  · exact meet_in (meet_iff.mpr h) k4 k1
  · exact meet_in (meet_iff.mpr h) k1 k2
  · exact meet_in (meet_iff.mpr h) k2 k3
  · exact meet_in (meet_iff.mpr h) k3 k4
/-- a point of a standing or lying edge -/
theorem edge_x {a b : Pt} {w0 w1 x y1 y2 : Int} (hw : Wt 2 [w0, w1]) (hk : 0 < w0 + w1) (hx : w0 * a.1 + w1 * b.1 = (w0 + w1) * x) (h1 : (w0 + w1) * mn y1 y2 ≤ w0 * a.2 + w1 * b.2) (h2 : w0 * a.2 + w1 * b.2 ≤ (w0 + w1) * mx y1 y2) : CutP a b (x, y1) (x, y2) := by
  refine meet_iff.mp (ins_meet.mp ⟨[w0, w1], ins_phts.mpr ⟨hw, ?_⟩⟩)
  refine ⟨?_, ?_, ?_, ?_, ?_⟩
  · unfold cross
    simp only
    rw [hx]
    grind
  · show mn ((w0 + w1) * x) ((w0 + w1) * x) ≤ w0 * a.1 + w1 * b.1
    have := (mn_le ((w0 + w1) * x) ((w0 + w1) * x)).1
    omega
  · show w0 * a.1 + w1 * b.1 ≤ mx ((w0 + w1) * x) ((w0 + w1) * x)
    have := (le_mx ((w0 + w1) * x) ((w0 + w1) * x)).1
    omega
  · show mn ((w0 + w1) * y1) ((w0 + w1) * y2) ≤ w0 * a.2 + w1 * b.2
    rw [mn_scale hk]
    exact h1
  · show w0 * a.2 + w1 * b.2 ≤ mx ((w0 + w1) * y1) ((w0 + w1) * y2)
    rw [mx_scale hk]
    exact h2
theorem edge_y {a b : Pt} {w0 w1 y x1 x2 : Int} (hw : Wt 2 [w0, w1]) (hk : 0 < w0 + w1) (hy : w0 * a.2 + w1 * b.2 = (w0 + w1) * y) (h1 : (w0 + w1) * mn x1 x2 ≤ w0 * a.1 + w1 * b.1) (h2 : w0 * a.1 + w1 * b.1 ≤ (w0 + w1) * mx x1 x2) : CutP a b (x1, y) (x2, y) := by
  refine meet_iff.mp (ins_meet.mp ⟨[w0, w1], ins_phts.mpr ⟨hw, ?_⟩⟩)
  refine ⟨?_, ?_, ?_, ?_, ?_⟩
  · unfold cross
    simp only
    rw [hy]
    grind
  · show mn ((w0 + w1) * x1) ((w0 + w1) * x2) ≤ w0 * a.1 + w1 * b.1
    rw [mn_scale hk]
    exact h1
  · show w0 * a.1 + w1 * b.1 ≤ mx ((w0 + w1) * x1) ((w0 + w1) * x2)
    rw [mx_scale hk]
    exact h2
  · show mn ((w0 + w1) * y) ((w0 + w1) * y) ≤ w0 * a.2 + w1 * b.2
    have := (mn_le ((w0 + w1) * y) ((w0 + w1) * y)).1
    omega
  · show w0 * a.2 + w1 * b.2 ≤ mx ((w0 + w1) * y) ((w0 + w1) * y)
    have := (le_mx ((w0 + w1) * y) ((w0 + w1) * y)).1
    omega
theorem mn_eq {i j : Int} (h : i ≤ j) : mn i j = i ∧ mn j i = i ∧ mx i j = j ∧ mx j i = j := by
  unfold mn mx
  refine ⟨?_, ?_, ?_, ?_⟩ <;> split <;> omega
theorem meet_hits {B : Blk} (hv : Vb B) {a b : Pt} (h : MeetB B a b) : Hits B a b := by
  obtain ⟨v1, v2⟩ := hv
  have C := cut2_ok (hs := rows2 (hts B a) (hts B b)) rows2_len
  have ne : cutAll unit2 (rows2 (hts B a) (hts B b)) ≠ [] := fun z => none_meetB.mp z h
  obtain ⟨p, hp⟩ := List.exists_mem_of_ne_nil _ ne
  have hS := C.mem p hp
  obtain ⟨w0, w1, rfl, h0, h1, hk⟩ := wt2 hS.1
  obtain ⟨_, ⟨i1, i2⟩, i3, i4⟩ := ins_hts.mp hS
  rcases C.tight _ hp with t | ⟨g, hg, z⟩
  · have t2 : [w0, w1] = [1, 0] ∨ [w0, w1] = [0, 1] := by simpa [unit2] using t
    rcases t2 with t | t
    · injection t with t1 t2
      injection t2 with t2 _
      subst t1 t2
      exact .inl ⟨⟨by omega, by omega⟩, by omega, by omega⟩
    · injection t with t1 t2
      injection t2 with t2 _
      subst t1 t2
      exact .inr (.inl ⟨⟨by omega, by omega⟩, by omega, by omega⟩)
  · obtain ⟨l1, l2, l3, l4⟩ := mn_eq v2
    obtain ⟨r1, r2, r3, r4⟩ := mn_eq v1
    simp only [rows2, hts, List.zipWith_cons_cons, List.zipWith_nil_left, List.mem_cons, List.not_mem_nil, or_false] at hg
    rcases hg with rfl | rfl | rfl | rfl
    · rw [dot2] at z
      refine .inr (.inr (.inl (edge_x hS.1 hk ?_ ?_ ?_)))
      · grind
      · rw [l2]
        exact i3
      · rw [l4]
        exact i4
    · rw [dot2] at z
      refine .inr (.inr (.inr (.inr (.inl (edge_x hS.1 hk ?_ ?_ ?_)))))
      · grind
      · rw [l1]
        exact i3
      · rw [l3]
        exact i4
    · rw [dot2] at z
      refine .inr (.inr (.inr (.inl (edge_y hS.1 hk ?_ ?_ ?_))))
      · grind
      · rw [r1]
        exact i1
      · rw [r3]
        exact i2
    · rw [dot2] at z
      refine .inr (.inr (.inr (.inr (.inr (edge_y hS.1 hk ?_ ?_ ?_)))))
      · grind
      · rw [r2]
        exact i1
      · rw [r4]
        exact i2
theorem hits_iff {B : Blk} (hv : Vb B) {a b : Pt} : Hits B a b ↔ MeetB B a b := ⟨hits_meet hv, meet_hits hv⟩
/-! ### no separation by the sides is enough -/
theorem helly {hs : List (List Int)} (hl : ∀ h ∈ hs, h.length = 2) (h1 : ∀ x y, [x, y] ∈ hs → ¬ (x < 0 ∧ y < 0)) (h2 : ∀ x y x' y', [x, y] ∈ hs → [x', y'] ∈ hs → x < 0 → 0 ≤ y → 0 ≤ x' → y' < 0 → 0 ≤ y * x' - x * y') : ∃ u, InS 2 hs u := by
  have two : ∀ h ∈ hs, ∃ x y, h = [x, y] := fun h hh => by
    have := hl h hh
    match h, this with
    | [x, y], _ => exact ⟨x, y, rfl⟩
  by_cases hx : ∃ h ∈ hs, 0 < -h.getD 0 0
  · obtain ⟨g, g1, g2, g3⟩ := least_ratio (f := fun h => h.getD 1 0) (h := fun h => -h.getD 0 0) hx
    obtain ⟨x, y, rfl⟩ := two g g1
    simp only [List.getD_cons_zero, List.getD_cons_succ] at g2 g3
    have y0 : 0 ≤ y := by
      have := h1 x y g1
      omega
    refine ⟨[y, -x], wt2_of y0 (by omega) (by omega), fun h hh => ?_⟩
    obtain ⟨u, v, rfl⟩ := two h hh
    rw [dot2]
    by_cases hu : u < 0
    · have := g3 _ hh (by simp only [List.getD_cons_zero]; omega)
      simp only [List.getD_cons_zero, List.getD_cons_succ] at this
      have e1 : y * -u = -(y * u) := by grind
      have e2 : v * -x = -x * v := by grind
      omega
    · by_cases hv : v < 0
      · have := h2 x y u v g1 hh (by omega) y0 (by omega) hv
        have e : -x * v = -(x * v) := by grind
        omega
      · have e1 := Int.mul_nonneg y0 (show 0 ≤ u by omega)
        have e2 := Int.mul_nonneg (show 0 ≤ -x by omega) (show 0 ≤ v by omega)
        omega
  · refine ⟨[1, 0], wt2_of (by decide) (by decide) (by decide), fun h hh => ?_⟩
    obtain ⟨u, v, rfl⟩ := two h hh
    rw [dot2]
    have : ¬ 0 < -u := fun q => hx ⟨_, hh, q⟩
    omega
/-- across first, then up: the corner cuts the block off -/
theorem off_xy {a b : Pt} {X Y s t : Int} (hs : s = 1 ∨ s = -1) (ht : t = 1 ∨ t = -1) (h1 : s * (a.1 - X) < 0) (h2 : 0 ≤ s * (b.1 - X)) (h3 : 0 ≤ t * (a.2 - Y)) (h4 : t * (b.2 - Y) < 0) (h5 : (s * (b.1 - X)) * (t * (a.2 - Y)) - (s * (a.1 - X)) * (t * (b.2 - Y)) < 0)
    {x y : Int} (hx : 0 ≤ s * (x - X)) (hy : 0 ≤ t * (y - Y)) : 0 < s * t * cross a b (x, y) := by
  have e : s * t * cross a b (x, y) = -((s * (b.1 - X)) * (t * (a.2 - Y)) - (s * (a.1 - X)) * (t * (b.2 - Y))) + (s * (b.1 - X) - s * (a.1 - X)) * (t * (y - Y)) + (t * (a.2 - Y) - t * (b.2 - Y)) * (s * (x - X)) := by
    unfold cross
    simp only
    grind
  rw [e]
  have k1 := Int.mul_nonneg (show 0 ≤ s * (b.1 - X) - s * (a.1 - X) by omega) hy
  have k2 := Int.mul_nonneg (show 0 ≤ t * (a.2 - Y) - t * (b.2 - Y) by omega) hx
  omega
theorem off_yx {a b : Pt} {X Y s t : Int} (hs : s = 1 ∨ s = -1) (ht : t = 1 ∨ t = -1) (h1 : t * (a.2 - Y) < 0) (h2 : 0 ≤ t * (b.2 - Y)) (h3 : 0 ≤ s * (a.1 - X)) (h4 : s * (b.1 - X) < 0) (h5 : (t * (b.2 - Y)) * (s * (a.1 - X)) - (t * (a.2 - Y)) * (s * (b.1 - X)) < 0)
    {x y : Int} (hx : 0 ≤ s * (x - X)) (hy : 0 ≤ t * (y - Y)) : s * t * cross a b (x, y) < 0 := by
  have e : s * t * cross a b (x, y) = ((t * (b.2 - Y)) * (s * (a.1 - X)) - (t * (a.2 - Y)) * (s * (b.1 - X))) - (s * (a.1 - X) - s * (b.1 - X)) * (t * (y - Y)) - (t * (b.2 - Y) - t * (a.2 - Y)) * (s * (x - X)) := by
    unfold cross
    simp only
    grind
  rw [e]
  have k1 := Int.mul_nonneg (show 0 ≤ s * (a.1 - X) - s * (b.1 - X) by omega) hy
  have k2 := Int.mul_nonneg (show 0 ≤ t * (b.2 - Y) - t * (a.2 - Y) by omega) hx
  omega
theorem bes_of {a b : Pt} {B : Blk} {k : Int} (hk : k = 1 ∨ k = -1) (h : ∀ x y, (x = B.left ∨ x = B.right) → (y = B.low ∨ y = B.high) → 0 < k * cross a b (x, y)) : Bes a b (corners B) := by
  have q1 := h B.left B.low (.inl rfl) (.inl rfl)
  have q2 := h B.right B.low (.inr rfl) (.inl rfl)
  have q3 := h B.right B.high (.inr rfl) (.inr rfl)
  have q4 := h B.left B.high (.inl rfl) (.inr rfl)
  rcases hk with rfl | rfl
  · refine .inl fun x hx => ?_
    simp only [corners, List.mem_cons, List.not_mem_nil, or_false] at hx
    rcases hx with rfl | rfl | rfl | rfl <;> omega
  · refine .inr fun x hx => ?_
    simp only [corners, List.mem_cons, List.not_mem_nil, or_false] at hx
    rcases hx with rfl | rfl | rfl | rfl <;> omega
theorem satB_meet {B : Blk} (hv : Vb B) {a b : Pt} (h : SatB B a b) : MeetB B a b := by
  obtain ⟨⟨x1, x2, y1, y2⟩, nb⟩ := h
  obtain ⟨v1, v2⟩ := hv
  have ma := le_mx a.1 b.1
  have mb := mn_le a.1 b.1
  have mc := le_mx a.2 b.2
  have md := mn_le a.2 b.2
  have xo := mx_or a.1 b.1
  have xn := mn_or a.1 b.1
  have yo := mx_or a.2 b.2
  have yn := mn_or a.2 b.2
  have X1 : B.left ≤ mx a.1 b.1 := x1
  have X2 : mn a.1 b.1 ≤ B.right := x2
  have Y1 : B.low ≤ mx a.2 b.2 := y1
  have Y2 : mn a.2 b.2 ≤ B.high := y2
  refine ins_meetB.mp (helly rows2_len ?_ ?_)
  · intro x y hm
    simp only [rows2, hts, List.zipWith_cons_cons, List.zipWith_nil_left, List.mem_cons, List.not_mem_nil, or_false, List.cons.injEq, and_true] at hm
    rcases hm with ⟨rfl, rfl⟩ | ⟨rfl, rfl⟩ | ⟨rfl, rfl⟩ | ⟨rfl, rfl⟩ <;> omega
  · have XY : ∀ {X Y s t : Int}, (s = 1 ∧ X = B.left) ∨ (s = -1 ∧ X = B.right) → (t = 1 ∧ Y = B.low) ∨ (t = -1 ∧ Y = B.high) → s * (a.1 - X) < 0 → 0 ≤ s * (b.1 - X) → 0 ≤ t * (a.2 - Y) → t * (b.2 - Y) < 0 → 0 ≤ (s * (b.1 - X)) * (t * (a.2 - Y)) - (s * (a.1 - X)) * (t * (b.2 - Y)) := fun {X Y s t} hs ht h1 h2 h3 h4 => by
      apply Decidable.byContradiction
      intro hn
      refine nb (bes_of (k := s * t) ?_ fun x y hx hy => off_xy (X := X) (Y := Y) (by omega) (by omega) h1 h2 h3 h4 (by omega) ?_ ?_)
      · rcases hs with ⟨rfl, _⟩ | ⟨rfl, _⟩ <;> rcases ht with ⟨rfl, _⟩ | ⟨rfl, _⟩ <;> decide
      · rcases hs with ⟨rfl, rfl⟩ | ⟨rfl, rfl⟩ <;> rcases hx with rfl | rfl <;> omega
      · rcases ht with ⟨rfl, rfl⟩ | ⟨rfl, rfl⟩ <;> rcases hy with rfl | rfl <;> omega
    have YX : ∀ {X Y s t : Int}, (s = 1 ∧ X = B.left) ∨ (s = -1 ∧ X = B.right) → (t = 1 ∧ Y = B.low) ∨ (t = -1 ∧ Y = B.high) → t * (a.2 - Y) < 0 → 0 ≤ t * (b.2 - Y) → 0 ≤ s * (a.1 - X) → s * (b.1 - X) < 0 → 0 ≤ (t * (b.2 - Y)) * (s * (a.1 - X)) - (t * (a.2 - Y)) * (s * (b.1 - X)) := fun {X Y s t} hs ht h1 h2 h3 h4 => by
      apply Decidable.byContradiction
      intro hn
      refine nb (bes_of (k := -(s * t)) ?_ fun x y hx hy => ?_)
      · rcases hs with ⟨rfl, _⟩ | ⟨rfl, _⟩ <;> rcases ht with ⟨rfl, _⟩ | ⟨rfl, _⟩ <;> decide
      · have := off_yx (X := X) (Y := Y) (x := x) (y := y) (s := s) (t := t) (a := a) (b := b) (by omega) (by omega) h1 h2 h3 h4 (by omega) (by rcases hs with ⟨rfl, rfl⟩ | ⟨rfl, rfl⟩ <;> rcases hx with rfl | rfl <;> omega) (by rcases ht with ⟨rfl, rfl⟩ | ⟨rfl, rfl⟩ <;> rcases hy with rfl | rfl <;> omega)
        rw [Int.neg_mul]
        omega
    have SS : ∀ {p q l r : Int}, l ≤ r → p - l < 0 → 0 ≤ q - l → 0 ≤ r - p → r - q < 0 → 0 ≤ (q - l) * (r - p) - (p - l) * (r - q) := fun {p q l r} hlr h1 h2 h3 h4 => by
      have e1 := Int.mul_nonneg (show 0 ≤ r - l by omega) (show 0 ≤ q - p by omega)
      have e2 : (q - l) * (r - p) - (p - l) * (r - q) = (r - l) * (q - p) := by grind
      omega
    have SS2 : ∀ {p q l r : Int}, l ≤ r → r - p < 0 → 0 ≤ r - q → 0 ≤ p - l → q - l < 0 → 0 ≤ (r - q) * (p - l) - (r - p) * (q - l) := fun {p q l r} hlr h1 h2 h3 h4 => by
      have e1 := Int.mul_nonneg (show 0 ≤ r - l by omega) (show 0 ≤ p - q by omega)
      have e2 : (r - q) * (p - l) - (r - p) * (q - l) = (r - l) * (p - q) := by grind
      omega
    have one : ∀ z : Int, 1 * z = z := Int.one_mul
    have neg : ∀ z w : Int, -1 * (z - w) = w - z := fun z w => by omega
    intro x y x' y' hm hm' p1 p2 p3 p4
    simp only [rows2, hts, List.zipWith_cons_cons, List.zipWith_nil_left, List.mem_cons, List.not_mem_nil, or_false, List.cons.injEq, and_true] at hm hm'
    rcases hm with ⟨rfl, rfl⟩ | ⟨rfl, rfl⟩ | ⟨rfl, rfl⟩ | ⟨rfl, rfl⟩ <;> rcases hm' with ⟨rfl, rfl⟩ | ⟨rfl, rfl⟩ | ⟨rfl, rfl⟩ | ⟨rfl, rfl⟩
    · omega
    · exact SS v1 p1 p2 p3 p4
    · have := XY (s := 1) (t := 1) (.inl ⟨rfl, rfl⟩) (.inl ⟨rfl, rfl⟩); simp only [one] at this; exact this p1 p2 p3 p4
    · have := XY (s := 1) (t := -1) (.inl ⟨rfl, rfl⟩) (.inr ⟨rfl, rfl⟩); simp only [one, neg] at this; exact this p1 p2 p3 p4
    · exact SS2 v1 p1 p2 p3 p4
    · omega
    · have := XY (s := -1) (t := 1) (.inr ⟨rfl, rfl⟩) (.inl ⟨rfl, rfl⟩); simp only [one, neg] at this; exact this p1 p2 p3 p4
    · have := XY (s := -1) (t := -1) (.inr ⟨rfl, rfl⟩) (.inr ⟨rfl, rfl⟩); simp only [neg] at this; exact this p1 p2 p3 p4
    · have := YX (s := 1) (t := 1) (.inl ⟨rfl, rfl⟩) (.inl ⟨rfl, rfl⟩); simp only [one] at this; exact this p1 p2 p3 p4
    · have := YX (s := -1) (t := 1) (.inr ⟨rfl, rfl⟩) (.inl ⟨rfl, rfl⟩); simp only [one, neg] at this; exact this p1 p2 p3 p4
    · omega
    · exact SS v2 p1 p2 p3 p4
    · have := YX (s := 1) (t := -1) (.inl ⟨rfl, rfl⟩) (.inr ⟨rfl, rfl⟩); simp only [one, neg] at this; exact this p1 p2 p3 p4
    · have := YX (s := -1) (t := -1) (.inr ⟨rfl, rfl⟩) (.inr ⟨rfl, rfl⟩); simp only [neg] at this; exact this p1 p2 p3 p4
    · exact SS2 v2 p1 p2 p3 p4
    · omega
theorem meet_satB {B : Blk} {a b : Pt} (h : MeetB B a b) : SatB B a b := by
  obtain ⟨w0, w1, h0, h1, hk, ⟨i1, i2⟩, i3, i4⟩ := h
  have a1 := comb_ge h0 h1 (mn_le a.1 b.1).1 (mn_le a.1 b.1).2
  have a2 := comb_le h0 h1 (le_mx a.1 b.1).1 (le_mx a.1 b.1).2
  have a3 := comb_ge h0 h1 (mn_le a.2 b.2).1 (mn_le a.2 b.2).2
  have a4 := comb_le h0 h1 (le_mx a.2 b.2).1 (le_mx a.2 b.2).2
  have id : ∀ x y : Int, (w0 + w1) * cross a b (x, y) = (b.1 - a.1) * ((w0 + w1) * y - (w0 * a.2 + w1 * b.2)) - (b.2 - a.2) * ((w0 + w1) * x - (w0 * a.1 + w1 * b.1)) := fun x y => by
    unfold cross
    simp only
    grind
  generalize hX : w0 * a.1 + w1 * b.1 = X at *
  generalize hY : w0 * a.2 + w1 * b.2 = Y at *
  generalize hkk : w0 + w1 = k at *
  refine ⟨⟨?_, ?_, ?_, ?_⟩, ?_⟩
  · exact Int.le_of_mul_le_mul_left (show k * B.left ≤ k * mx a.1 b.1 by omega) hk
  · exact Int.le_of_mul_le_mul_left (show k * mn a.1 b.1 ≤ k * B.right by omega) hk
  · exact Int.le_of_mul_le_mul_left (show k * B.low ≤ k * mx a.2 b.2 by omega) hk
  · exact Int.le_of_mul_le_mul_left (show k * mn a.2 b.2 ≤ k * B.high by omega) hk
  · have mem : ∀ x y, (x = B.left ∨ x = B.right) → (y = B.low ∨ y = B.high) → (x, y) ∈ corners B := fun x y hx hy => by
      simp only [corners, List.mem_cons, List.not_mem_nil, or_false, Prod.mk.injEq]
      rcases hx with rfl | rfl <;> rcases hy with rfl | rfl <;> simp
    -- the corner that is least, and the one that is greatest
    have least : ∃ p ∈ corners B, cross a b p ≤ 0 := by
      have hy : ∃ y, (y = B.low ∨ y = B.high) ∧ (b.1 - a.1) * (k * y - Y) ≤ 0 := by
        rcases Int.le_total 0 (b.1 - a.1) with q | q
        · refine ⟨B.low, .inl rfl, ?_⟩
          have := Int.mul_nonneg q (show 0 ≤ Y - k * B.low by omega)
          have e : (b.1 - a.1) * (Y - k * B.low) = -((b.1 - a.1) * (k * B.low - Y)) := by grind
          omega
        · refine ⟨B.high, .inr rfl, ?_⟩
          have := Int.mul_nonneg (show 0 ≤ -(b.1 - a.1) by omega) (show 0 ≤ k * B.high - Y by omega)
          rw [Int.neg_mul] at this
          omega
      have hx : ∃ x, (x = B.left ∨ x = B.right) ∧ 0 ≤ (b.2 - a.2) * (k * x - X) := by
        rcases Int.le_total 0 (b.2 - a.2) with q | q
        · exact ⟨B.right, .inr rfl, Int.mul_nonneg q (by omega)⟩
        · exact ⟨B.left, .inl rfl, Int.mul_nonneg_of_nonpos_of_nonpos q (by omega)⟩
      obtain ⟨y, y1, y2⟩ := hy
      obtain ⟨x, x1, x2⟩ := hx
      refine ⟨_, mem x y x1 y1, Decidable.byContradiction fun hn => ?_⟩
      have := Int.mul_pos hk (show 0 < cross a b (x, y) by omega)
      have := id x y
      omega
    have great : ∃ p ∈ corners B, 0 ≤ cross a b p := by
      have hy : ∃ y, (y = B.low ∨ y = B.high) ∧ 0 ≤ (b.1 - a.1) * (k * y - Y) := by
        rcases Int.le_total 0 (b.1 - a.1) with q | q
        · exact ⟨B.high, .inr rfl, Int.mul_nonneg q (by omega)⟩
        · exact ⟨B.low, .inl rfl, Int.mul_nonneg_of_nonpos_of_nonpos q (by omega)⟩
      have hx : ∃ x, (x = B.left ∨ x = B.right) ∧ (b.2 - a.2) * (k * x - X) ≤ 0 := by
        rcases Int.le_total 0 (b.2 - a.2) with q | q
        · refine ⟨B.left, .inl rfl, ?_⟩
          have := Int.mul_nonneg q (show 0 ≤ X - k * B.left by omega)
          have e : (b.2 - a.2) * (X - k * B.left) = -((b.2 - a.2) * (k * B.left - X)) := by grind
          omega
        · refine ⟨B.right, .inr rfl, ?_⟩
          have := Int.mul_nonneg (show 0 ≤ -(b.2 - a.2) by omega) (show 0 ≤ k * B.right - X by omega)
          rw [Int.neg_mul] at this
          omega
      obtain ⟨y, y1, y2⟩ := hy
      obtain ⟨x, x1, x2⟩ := hx
      refine ⟨_, mem x y x1 y1, Decidable.byContradiction fun hn => ?_⟩
      have := Int.mul_neg_of_pos_of_neg hk (show cross a b (x, y) < 0 by omega)
      have := id x y
      omega
    rintro (q | q)
    · obtain ⟨p, p1, p2⟩ := least
      have := q p p1
      omega
    · obtain ⟨p, p1, p2⟩ := great
      have := q p p1
      omega
theorem satB_iff {B : Blk} (hv : Vb B) {a b : Pt} : SatB B a b ↔ Hits B a b := ⟨fun h => meet_hits hv (satB_meet hv h), fun h => meet_satB (hits_meet hv h)⟩
theorem none_hits {B : Blk} (hv : Vb B) {a b : Pt} : cutAll unit2 (rows2 (hts B a) (hts B b)) = [] ↔ ¬ Hits B a b := by rw [none_meetB, hits_iff hv]
theorem MeetB.flip {B : Blk} {a b : Pt} (h : MeetB B a b) : MeetB B b a := by
  obtain ⟨w0, w1, h0, h1, hk, hi⟩ := h
  refine ⟨w1, w0, h1, h0, by omega, ?_⟩
  rw [Int.add_comm w1 w0, Int.add_comm (w1 * b.1), Int.add_comm (w1 * b.2)]
  exact hi
theorem hits_flip {B : Blk} (hv : Vb B) {a b : Pt} : Hits B b a ↔ Hits B a b := by
  rw [hits_iff hv, hits_iff hv]
  exact ⟨MeetB.flip, MeetB.flip⟩
end Hs
namespace Hs
open PySem PySem.Spec PyProof.Rows L2 Evl
theorem given_ints {n : Nat} {f : Nat → Int} {l : List Int} (hl : l.length = n) (h : ∀ (k : Nat) (x : Int), l[k]? = some x → x = f k) : given n (fun _ => true) (fun k => V.int (f k)) = l.map V.int := by
  subst hl
  unfold given
  rw [List.filter_eq_self.mpr (fun _ _ => rfl)]
  apply List.ext_getElem
  · simp
  · intro i h1 h2
    simp only [List.length_map, List.length_range] at h1
    simp only [List.getElem_map, List.getElem_range]
    rw [h i _ (List.getElem?_eq_getElem h1)]
theorem s_par {σ : L2.St} {H : Hp} {D : Ends} {i j : Nat} {ta : TA} {v u : V} (h : EvA ta σ H [v, u]) (k : ∀ H1, Ex H H1 → D.nx ((σ.set i (some v)).set j (some u)) H1) : tPar i j ta D σ H := h H (Ex.refl H) _ fun H1 e => ⟨v, u, rfl, k H1 e⟩
theorem q_par {σ : L2.St} {H : Hp} {D : Ends} {i j : Nat} {ta : TA} {v u : V} {tz : TS} (h : EvA ta σ H [v, u]) (k : ∀ H1, Ex H H1 → tz D ((σ.set i (some v)).set j (some u)) H1) : tSeq (tPar i j ta) tz D σ H := s_par (D := { D with nx := tz D }) h k
theorem cross_bd {n : Nat} {a b c : Pt} (ha : Bd n a.1 ∧ Bd n a.2) (hb : Bd n b.1 ∧ Bd n b.2) (hc : Bd n c.1 ∧ Bd n c.2) : Bd (2 * n + 3) (cross a b c) := by
  have := ((hb.1.sub ha.1).mul (hc.2.sub ha.2)).sub ((hb.2.sub ha.2).mul (hc.1.sub ha.1))
  exact this.mono (by omega)
end Hs
namespace Hs
open PySem PySem.Spec PyProof.Rows L2 Evl
/-! ### whether figures meet -/
section
variable {P : Program} {w : World} {K : PySem.W.Frag} {mg : Str → Option Value} {base : Heap} {f : Addr} {fd : FuncData} {n : Nat}
def spBlm (K : PySem.W.Frag) (n : Nat) : Sp := fun vs H Q _ => ∃ (p q : Addr) (x y : Blk), vs = [.ref p, .ref q] ∧ Bl K n H p x ∧ Bl K n H q y ∧ RetV (.bl (decide (BoxM x y))) H Q
abbrev sBlm : Stmt := top 26
theorem scBlm : FnScope ["one", "other"] ["one", "other"] (defScope sBlm) := ⟨rfl, rfl, rfl, by decide +kernel, rfl, by decide +kernel, by decide +kernel⟩
theorem ok_blm (F : FnP K "blocks_meet" sBlm f fd) : FnOk P w K mg base CX0 1 f fd ["one", "other"] (spBlm K n) := by
  have nd := scBlm.nd
  refine F.ok scBlm (fun vs H Q E h => ?_) (fun cdv A outer s H vs Q E hr h => ⟨_, PSs.nox (pss_one (ps_ret (pe_and (pe_cmpR op_le (pe_ix (r := rIxT K) ix_tup (pv 0) pe_int (fun _ _ => rfl)) (pe_ix (r := rIxT K) ix_tup (pv 1) pe_int (fun _ _ => rfl)) (nomark _)) (pe_and (pe_cmpR op_le (pe_ix (r := rIxT K) ix_tup (pv 1) pe_int (fun _ _ => rfl)) (pe_ix (r := rIxT K) ix_tup (pv 0) pe_int (fun _ _ => rfl)) (nomark _)) (pe_and (pe_cmpR op_le (pe_ix (r := rIxT K) ix_tup (pv 0) pe_int (fun _ _ => rfl)) (pe_ix (r := rIxT K) ix_tup (pv 1) pe_int (fun _ _ => rfl)) (nomark _)) (pe_one (pe_cmpR op_le (pe_ix (r := rIxT K) ix_tup (pv 1) pe_int (fun _ _ => rfl)) (pe_ix (r := rIxT K) ix_tup (pv 0) pe_int (fun _ _ => rfl)) (nomark _)))))))), ?_⟩)
  · obtain ⟨p, q, x, y, rfl, _⟩ := h
    rfl
  · obtain ⟨p, q, x, y, rfl, hx, hy, k⟩ := h
    refine s_ret (ev_is (ev_andV (ev_op (ev_ixt rfl hx.1 rfl) (ev_ixt rfl hy.1 rfl) rv_I0) fun _ => ev_andV (ev_op (ev_ixt rfl hy.1 rfl) (ev_ixt rfl hx.1 rfl) rv_I0) fun _ => ev_andV (ev_op (ev_ixt rfl hx.1 rfl) (ev_ixt rfl hy.1 rfl) rv_I0) fun _ => ev_op (ev_ixt rfl hy.1 rfl) (ev_ixt rfl hx.1 rfl) rv_I0) ?_) fun H1 e1 => k _ e1
    congr 1
    rw [Bool.eq_iff_iff]
    simp only [Bool.and_eq_true, decide_eq_true_eq]
    exact Iff.rfl
/-- places that stand, in a row -/
def PlL (K : PySem.W.Frag) (n : Nat) (H : Hp) (ps : List Addr) (xs : List Pt) : Prop := ps.length = xs.length ∧ ∀ (i : Nat) (p : Addr) (x : Pt), ps[i]? = some p → xs[i]? = some x → Pl K n H p x
def spBesT (K : PySem.W.Frag) (n : Nat) : Sp := fun vs H Q _ => ∃ (p q : Addr) (a b : Pt) (ps : List Addr) (xs : List Pt), vs = [.ref p, .ref q] ∧ Pc K n H p a b ∧ SqT K H q (ps.map V.ref) ∧ PlL K n H ps xs ∧ 0 < xs.length ∧ xs.length ≤ 100 ∧ RetV (.bl (decide (Bes a b xs))) H Q
def spBesL (K : PySem.W.Frag) (n : Nat) : Sp := fun vs H Q _ => ∃ (p q : Addr) (a b : Pt) (ps : List Addr) (xs : List Pt), vs = [.ref p, .ref q] ∧ Pc K n H p a b ∧ SqL K H q (ps.map V.ref) ∧ PlL K n H ps xs ∧ 0 < xs.length ∧ xs.length ≤ 100 ∧ RetV (.bl (decide (Bes a b xs))) H Q
theorem ev_minL {σ : L2.St} {H : Hp} {ta : TE} {p : Addr} {ns : List Int} (ha : Ev ta σ H (.ref p)) (h : SqL K H p (ns.map V.int)) (hn : 0 < ns.length) : ∃ m, m ∈ ns ∧ (∀ y ∈ ns, m ≤ y) ∧ Ev (tCB (rMin K) (tCons ta tNil)) σ H (.int m) := by
  cases ns with
  | nil => cases hn
  | cons x xs =>
    obtain ⟨m1, m2⟩ := minOf_mem xs x
    refine ⟨_, m1, m2, fun H1 e Q q => ha H1 e _ fun H2 e2 => ⟨p, _, rfl, ex_l (e.trans e2) h, hn, fun m h1 h2 => ?_⟩⟩
    have e : m = PySem.W.minOf x xs := Int.le_antisymm (h2 _ m1) (m2 _ h1)
    rw [e]
    exact q H2 e2
theorem ev_maxL {σ : L2.St} {H : Hp} {ta : TE} {p : Addr} {ns : List Int} (ha : Ev ta σ H (.ref p)) (h : SqL K H p (ns.map V.int)) (hn : 0 < ns.length) : ∃ m, m ∈ ns ∧ (∀ y ∈ ns, y ≤ m) ∧ Ev (tCB (rMax K) (tCons ta tNil)) σ H (.int m) := by
  obtain ⟨m, m1, m2⟩ : ∃ m, m ∈ ns ∧ ∀ y ∈ ns, y ≤ m := by
    clear h ha
    induction ns with
    | nil => cases hn
    | cons x xs ih =>
      by_cases hx : xs = []
      · subst hx
        exact ⟨x, by simp, by simp⟩
      · obtain ⟨m, m1, m2⟩ := ih (by cases xs <;> simp_all)
        by_cases hm : x ≤ m
        · refine ⟨m, List.mem_cons_of_mem _ m1, fun y hy => ?_⟩
          rcases List.mem_cons.mp hy with rfl | hy
          · exact hm
          · exact m2 y hy
        · refine ⟨x, List.mem_cons_self .., fun y hy => ?_⟩
          rcases List.mem_cons.mp hy with rfl | hy
          · exact Int.le_refl _
          · have := m2 y hy
            omega
  refine ⟨m, m1, m2, fun H1 e Q q => ha H1 e _ fun H2 e2 => ⟨p, _, rfl, ex_l (e.trans e2) h, hn, fun k h1 h2 => ?_⟩⟩
  have e : k = m := Int.le_antisymm (m2 _ h1) (h2 _ m1)
  rw [e]
  exact q H2 e2
theorem sgn_pos {i : Int} : 0 < sgn i ↔ 0 < i := by
  unfold sgn
  split
  · simp_all
  · split <;> omega
theorem sgn_neg' {i : Int} : sgn i < 0 ↔ i < 0 := by
  unfold sgn
  split
  · omega
  · split <;> omega
theorem bes_min {a b : Pt} {xs : List Pt} {m M : Int} (h1 : m ∈ xs.map fun x => sgn (cross a b x)) (h2 : ∀ y ∈ xs.map (fun x => sgn (cross a b x)), m ≤ y) (h3 : M ∈ xs.map fun x => sgn (cross a b x)) (h4 : ∀ y ∈ xs.map (fun x => sgn (cross a b x)), y ≤ M) : (decide (m > 0) || decide (M < 0)) = decide (Bes a b xs) := by
  rw [Bool.eq_iff_iff]
  simp only [Bool.or_eq_true, decide_eq_true_eq]
  unfold Bes
  obtain ⟨u, hu, e1⟩ := List.mem_map.mp h1
  obtain ⟨v, hv, e2⟩ := List.mem_map.mp h3
  constructor
  · rintro (h | h)
    · refine .inl fun x hx => sgn_pos.mp ?_
      have := h2 _ (List.mem_map.mpr ⟨x, hx, rfl⟩)
      omega
    · refine .inr fun x hx => sgn_neg'.mp ?_
      have := h4 _ (List.mem_map.mpr ⟨x, hx, rfl⟩)
      omega
  · rintro (h | h)
    · refine .inl ?_
      rw [← e1]
      exact sgn_pos.mpr (h u hu)
    · refine .inr ?_
      rw [← e2]
      exact sgn_neg'.mpr (h v hv)
abbrev sBes : Stmt := top 27
theorem scBes : FnScope ["piece", "places", "sides", "place"] ["piece", "places"] (defScope sBes) := ⟨rfl, rfl, rfl, by decide +kernel, rfl, by decide +kernel, by decide +kernel⟩
theorem given_pl {n' : Nat} {H : Hp} {ps : List Addr} {xs : List Pt} {g : Pt → Int} (h : ps.length = xs.length) : given (ps.map V.ref).length (fun _ => true) (fun k => V.int (g (xs.getD k (0, 0)))) = (xs.map g).map V.int := by
  rw [List.length_map, h]
  refine given_ints (f := fun k => g (xs.getD k (0, 0))) (by simp) fun k x hx => ?_
  rw [List.getElem?_map] at hx
  obtain ⟨y, h1, h2⟩ := Option.map_eq_some_iff.mp hx
  rw [List.getD_eq_getElem?_getD, h1, ← h2]
  rfl
theorem ok_besT (F : FnP K "beside" sBes f fd) (O_side : Own P w K mg base 2 "side" ["one", "other", "place"] (spSide K n)) (g_min : mg "min" = none) (g_max : mg "max" = none) : FnOk P w K mg base CX0 3 f fd ["piece", "places"] (spBesT K n) := by
  have nd := scBes.nd
  refine F.ok scBes (fun vs H Q E h => ?_) (fun cdv A outer s H vs Q E hr h => ⟨_, PSs.nox (pss_cons (ps_setLc (i := 2) (own := [("place", 3)]) rfl nd rfl rfl (sw_true rfl rfl rfl (by decide +kernel)) (pi_tup (pv 1)) (blkOk_by (N := ["piece", "places", "sides", "place"]) (sc := defScope (Hs.top 27)) (by decide +kernel)) (fun _ _ _ _ _ => (pg_name (i := 3) nd rfl (Or.inl rfl))) (fun _ _ _ _ _ => pts_nil) (fun _ _ _ _ _ => (Hs.pe_own O_side hr (by first | decide | omega) (by rfl) (pa_cons (pe_ix (r := rIxT K) ix_tup (pv 0) pe_int (fun _ _ => rfl)) (pa_cons (pe_ix (r := rIxT K) ix_tup (pv 0) pe_int (fun _ _ => rfl)) (pa_cons (pv 3) pa_nil))))))
  (pss_one (ps_ret (pe_or (pe_cmpR op_gt (pe_callB (r := rMin K) (cr_min rfl) (by rfl) g_min (by decide +kernel) (pa_cons (pv 2) pa_nil)) pe_int (nomark _)) (pe_one (pe_cmpR op_lt (pe_callB (r := rMax K) (cr_max rfl) (by rfl) g_max (by decide +kernel) (pa_cons (pv 2) pa_nil)) pe_int (nomark _))))))), ?_⟩)
  · obtain ⟨p, q, a, b, ps, xs, rfl, _⟩ := h
    rfl
  · obtain ⟨p, q, a, b, ps, xs, rfl, ⟨pa, pb, hp, ha, hb⟩, hq, hP, h0, h1, k⟩ := h
    refine q_asgL (xs := (xs.map fun x => sgn (cross a b x)).map V.int) ?_ fun t H1 nt e1 ht => ?_
    · rw [← given_pl (n' := 0) (H := H) (ps := ps) hP.1]
      refine el_lcT' (K := K) (xs := ps.map V.ref) _ (ev_var rfl) hq (by rw [List.length_map, hP.1]; omega) (fun _ => rfl) (fun i x H1 e1 hx => ?_)
      rw [List.getElem?_map] at hx
      obtain ⟨r, hr', rfl⟩ := Option.map_eq_some_iff.mp hx
      have hix : i < xs.length := by
        have := (List.getElem?_eq_some_iff.mp hr').1
        have := hP.1
        omega
      have hxi : xs[i]? = some xs[i] := List.getElem?_eq_getElem hix
      have hpl := (hP.2 i r _ hr' hxi).ext e1
      have eg : xs.getD i (0, 0) = xs[i] := by
        rw [List.getD_eq_getElem?_getD, hxi]
        rfl
      rw [eg]
      exact ev_call (ea_cons (ev_ixt (xs := [.ref pa, .ref pb]) rfl (ex_t e1 hp) rfl) (ea_cons (ev_ixt (xs := [.ref pa, .ref pb]) rfl (ex_t e1 hp) rfl) (ea_cons (ev_var rfl) ea_nil))) fun H2 e2 Q' q' E' => ⟨pa, pb, r, a, b, _, rfl, (ha.ext e1).ext e2, (hb.ext e1).ext e2, hpl.ext e2, q'⟩
    · obtain ⟨m, m1, m2, em⟩ := ev_minL (K := K) (σ := [some (.ref p), some (.ref q), some (.ref t), none]) (ta := tVar 2) (ev_var rfl) (sq_of ht) (by simpa using h0)
      obtain ⟨M, M1, M2, eM⟩ := ev_maxL (K := K) (σ := [some (.ref p), some (.ref q), some (.ref t), none]) (ta := tVar 2) (ev_var rfl) (sq_of ht) (by simpa using h0)
      exact s_ret (ev_is (ev_orV (ev_op em ev_c rv_I0) fun _ => ev_op eM ev_c rv_I0) (by rw [bes_min m1 m2 M1 M2])) fun H2 e2 => k _ (e1.trans e2)
theorem ok_besL (F : FnP K "beside" sBes f fd) (O_side : Own P w K mg base 2 "side" ["one", "other", "place"] (spSide K n)) (g_min : mg "min" = none) (g_max : mg "max" = none) : FnOk P w K mg base CX0 3 f fd ["piece", "places"] (spBesL K n) := by
  have nd := scBes.nd
  refine F.ok scBes (fun vs H Q E h => ?_) (fun cdv A outer s H vs Q E hr h => ⟨_, PSs.nox (pss_cons (ps_setLc (i := 2) (own := [("place", 3)]) rfl nd rfl rfl (sw_true rfl rfl rfl (by decide +kernel)) (pi_list (pv 1)) (blkOk_by (N := ["piece", "places", "sides", "place"]) (sc := defScope (Hs.top 27)) (by decide +kernel)) (fun _ _ _ _ _ => (pg_name (i := 3) nd rfl (Or.inl rfl))) (fun _ _ _ _ _ => pts_nil) (fun _ _ _ _ _ => (Hs.pe_own O_side hr (by first | decide | omega) (by rfl) (pa_cons (pe_ix (r := rIxT K) ix_tup (pv 0) pe_int (fun _ _ => rfl)) (pa_cons (pe_ix (r := rIxT K) ix_tup (pv 0) pe_int (fun _ _ => rfl)) (pa_cons (pv 3) pa_nil))))))
  (pss_one (ps_ret (pe_or (pe_cmpR op_gt (pe_callB (r := rMin K) (cr_min rfl) (by rfl) g_min (by decide +kernel) (pa_cons (pv 2) pa_nil)) pe_int (nomark _)) (pe_one (pe_cmpR op_lt (pe_callB (r := rMax K) (cr_max rfl) (by rfl) g_max (by decide +kernel) (pa_cons (pv 2) pa_nil)) pe_int (nomark _))))))), ?_⟩)
  · obtain ⟨p, q, a, b, ps, xs, rfl, _⟩ := h
    rfl
  · obtain ⟨p, q, a, b, ps, xs, rfl, ⟨pa, pb, hp, ha, hb⟩, hq, hP, h0, h1, k⟩ := h
    refine q_asgL (xs := (xs.map fun x => sgn (cross a b x)).map V.int) ?_ fun t H1 nt e1 ht => ?_
    · rw [← given_pl (n' := 0) (H := H) (ps := ps) hP.1]
      refine el_lcL' (K := K) (xs := ps.map V.ref) _ (ev_var rfl) hq (by rw [List.length_map, hP.1]; omega) (fun _ => rfl) (fun i x H1 e1 hx => ?_)
      rw [List.getElem?_map] at hx
      obtain ⟨r, hr', rfl⟩ := Option.map_eq_some_iff.mp hx
      have hix : i < xs.length := by
        have := (List.getElem?_eq_some_iff.mp hr').1
        have := hP.1
        omega
      have hxi : xs[i]? = some xs[i] := List.getElem?_eq_getElem hix
      have hpl := (hP.2 i r _ hr' hxi).ext e1
      have eg : xs.getD i (0, 0) = xs[i] := by
        rw [List.getD_eq_getElem?_getD, hxi]
        rfl
      rw [eg]
      exact ev_call (ea_cons (ev_ixt (xs := [.ref pa, .ref pb]) rfl (ex_t e1 hp) rfl) (ea_cons (ev_ixt (xs := [.ref pa, .ref pb]) rfl (ex_t e1 hp) rfl) (ea_cons (ev_var rfl) ea_nil))) fun H2 e2 Q' q' E' => ⟨pa, pb, r, a, b, _, rfl, (ha.ext e1).ext e2, (hb.ext e1).ext e2, hpl.ext e2, q'⟩
    · obtain ⟨m, m1, m2, em⟩ := ev_minL (K := K) (σ := [some (.ref p), some (.ref q), some (.ref t), none]) (ta := tVar 2) (ev_var rfl) (sq_of ht) (by simpa using h0)
      obtain ⟨M, M1, M2, eM⟩ := ev_maxL (K := K) (σ := [some (.ref p), some (.ref q), some (.ref t), none]) (ta := tVar 2) (ev_var rfl) (sq_of ht) (by simpa using h0)
      exact s_ret (ev_is (ev_orV (ev_op em ev_c rv_I0) fun _ => ev_op eM ev_c rv_I0) (by rw [bes_min m1 m2 M1 M2])) fun H2 e2 => k _ (e1.trans e2)
theorem Pc.bdL {H : Hp} {p : Addr} {a b : Pt} (h : Pc K n H p a b) : BdB n (boxOf a b) := by
  obtain ⟨x, y, _, h1, h2⟩ := h
  exact box_bd h1.2 h2.2
theorem Pc.pll {H : Hp} {p : Addr} {a b : Pt} (h : Pc K n H p a b) : ∃ ps, SqT K H p (ps.map V.ref) ∧ PlL K n H ps [a, b] := by
  obtain ⟨x, y, h0, h1, h2⟩ := h
  refine ⟨[x, y], h0, rfl, fun i q z hq hz => ?_⟩
  match i, hq, hz with
  | 0, hq, hz => cases hq; cases hz; exact h1
  | 1, hq, hz => cases hq; cases hz; exact h2
  | i + 2, hq, hz => cases hq
theorem PlL.ext {H H' : Hp} {ps : List Addr} {xs : List Pt} (h : PlL K n H ps xs) (e : Ex H H') : PlL K n H' ps xs := ⟨h.1, fun i p x hp hx => (h.2 i p x hp hx).ext e⟩
/-- a test by a call whose one argument makes a block, and another -/
theorem ev_blm {σ : L2.St} {H : Hp} {t1 t2 : TE} {x y : Blk} {E : XK} (h1 : EvU t1 σ H (blV x)) (h2 : EvU t2 σ H (blV y)) (bx : BdB n x) (by' : BdB n y) : Ev (tCall (spBlm K n) [] E (tCons t1 (tCons t2 tNil))) σ H (.bl (decide (BoxM x y))) := fun H1 e Q q =>
  h1 H1 e _ fun p H2 np e2 hp => h2 H2 (e.trans e2) _ fun r H3 nr e3 hr => ⟨p, r, x, y, rfl, ⟨st_of (e3 _ _ hp), bx⟩, ⟨st_of hr, by'⟩, fun H4 e4 => q H4 ((e2.trans e3).trans e4)⟩
theorem eu_box {σ : L2.St} {H : Hp} {i : Nat} {p : Addr} {a b : Pt} {E : XK} (h : σ[i]? = some (some (.ref p))) (hp : Pc K n H p a b) : EvU (tCall (spBox K n) [] E (tCons (tVar i) tNil)) σ H (blV (boxOf a b)) := eu_call (ea_cons (ev_var h) ea_nil) fun H1 e1 Q q E => ⟨p, a, b, rfl, hp.ext e1, q⟩
end
end Hs
namespace Hs
open PySem PySem.Spec PyProof.Rows L2 Evl
section
variable {P : Program} {w : World} {K : PySem.W.Frag} {mg : Str → Option Value} {base : Heap} {f : Addr} {fd : FuncData} {n : Nat}
def spPm (K : PySem.W.Frag) (n : Nat) : Sp := fun vs H Q _ => ∃ (p q : Addr) (a b c d : Pt), vs = [.ref p, .ref q] ∧ Pc K n H p a b ∧ Pc K n H q c d ∧ RetV (.bl (decide (Sat a b c d))) H Q
abbrev sPm : Stmt := top 28
theorem scPm : FnScope ["one", "other"] ["one", "other"] (defScope sPm) := ⟨rfl, rfl, rfl, by decide +kernel, rfl, by decide +kernel, by decide +kernel⟩
end
end Hs
namespace Hs
open PySem PySem.Spec PyProof.Rows L2 Evl
section
variable {P : Program} {w : World} {K : PySem.W.Frag} {mg : Str → Option Value} {base : Heap} {f : Addr} {fd : FuncData} {n : Nat}
/-- beside, of a tuple of places or a list of them -/
def spBes (K : PySem.W.Frag) (n : Nat) : Sp := fun vs H Q E => spBesT K n vs H Q E ∨ spBesL K n vs H Q E
theorem ok_bes (F : FnP K "beside" sBes f fd) (O_side : Own P w K mg base 2 "side" ["one", "other", "place"] (spSide K n)) (g_min : mg "min" = none) (g_max : mg "max" = none) : FnOk P w K mg base CX0 3 f fd ["piece", "places"] (spBes K n) := by
  have sT := ok_besT F O_side g_min g_max
  have sL := ok_besL F O_side g_min g_max
  exact ⟨fun vs H Q E h => h.elim (sT.len vs H Q E) (sL.len vs H Q E), fun A outer s H args us vs Q E hr e0 hb r h => h.elim (sT.run A outer s H args us vs Q E hr e0 hb r) (sL.run A outer s H args us vs Q E hr e0 hb r)⟩
end
end Hs
namespace Hs
open PySem PySem.Spec PyProof.Rows L2 Evl
section
variable {P : Program} {w : World} {K : PySem.W.Frag} {mg : Str → Option Value} {base : Heap} {f : Addr} {fd : FuncData} {n : Nat}
theorem ok_pm (F : FnP K "pieces_meet" sPm f fd) (O_blocks_meet : Own P w K mg base 1 "blocks_meet" ["one", "other"] (spBlm K n)) (O_box_around : Own P w K mg base 1 "box_around" ["piece"] (spBox K n)) (O_beside : Own P w K mg base 3 "beside" ["piece", "places"] (spBes K n)) : FnOk P w K mg base CX0 4 f fd ["one", "other"] (spPm K n) := by
  have nd := scPm.nd
  refine F.ok scPm (fun vs H Q E h => ?_) (fun cdv A outer s H vs Q E hr h => ⟨_, PSs.nox (pss_cons (ps_if (pt_not (pt_val (Hs.pe_own O_blocks_meet hr (by first | decide | omega) (by rfl) (pa_cons (Hs.pe_own O_box_around hr (by first | decide | omega) (by rfl) (pa_cons (pv 0) pa_nil)) (pa_cons (Hs.pe_own O_box_around hr (by first | decide | omega) (by rfl) (pa_cons (pv 1) pa_nil)) pa_nil))))) (pss_one (ps_ret pe_bl)) pss_nil)
  (pss_one (ps_ret (pe_and (pe_not (Hs.pe_own O_beside hr (by first | decide | omega) (by rfl) (pa_cons (pv 0) (pa_cons (pv 1) pa_nil)))) (pe_one (pe_not (Hs.pe_own O_beside hr (by first | decide | omega) (by rfl) (pa_cons (pv 1) (pa_cons (pv 0) pa_nil))))))))), ?_⟩)
  · obtain ⟨p, q, a, b, c, d, rfl, _⟩ := h
    rfl
  · obtain ⟨p, q, a, b, c, d, rfl, hp, hq, k⟩ := h
    refine q_when (et_not (et_B (ev_blm (eu_box rfl hp) (eu_box rfl hq) hp.bdL hq.bdL))) (fun ht H1 e1 => ?_) (fun ht H1 e1 => ?_)
    · have hb : ¬ BoxM (boxOf a b) (boxOf c d) := fun z => by
        rw [decide_eq_true z] at ht
        exact Bool.noConfusion ht
      rw [decide_eq_false (fun z : Sat a b c d => hb z.1)] at k
      exact s_ret ev_c fun H2 e2 => k _ (e1.trans e2)
    · have hb : BoxM (boxOf a b) (boxOf c d) := Decidable.byContradiction fun z => by
        rw [decide_eq_false z] at ht
        exact Bool.noConfusion ht
      have bes : ∀ {i j : Nat} {p q : Addr} {a b c d : Pt} {σ : L2.St}, σ[i]? = some (some (.ref p)) → σ[j]? = some (some (.ref q)) → Pc K n H1 p a b → Pc K n H1 q c d → Ev (tCall (spBes K n) [] E0 (tCons (tVar i) (tCons (tVar j) tNil))) σ H1 (.bl (decide (Bes a b [c, d]))) := fun {i j p q a b c d σ} h1 h2 hp hq => ev_call (ea_cons (ev_var h1) (ea_cons (ev_var h2) ea_nil)) fun H2 e2 Q' q' E' => by
        obtain ⟨ps, hs, hl⟩ := (hq.ext e2).pll
        exact .inl ⟨p, q, a, b, ps, [c, d], rfl, hp.ext e2, hs, hl, by simp, by simp, q'⟩
      refine s_ret (ev_is (ev_andV (ev_notV (bes (i := 0) (j := 1) rfl rfl (hp.ext e1) (hq.ext e1))) fun _ => ev_notV (bes (i := 1) (j := 0) rfl rfl (hq.ext e1) (hp.ext e1))) ?_) fun H2 e2 => k _ (e1.trans e2)
      congr 1
      rw [Bool.eq_iff_iff]
      simp only [Bool.and_eq_true, Bool.not_eq_true', decide_eq_true_eq, decide_eq_false_iff_not]
      unfold Sat
      simp only [hb, true_and]
end
end Hs
namespace Hs
open PySem PySem.Spec PyProof.Rows L2 Evl
section
variable {P : Program} {w : World} {K : PySem.W.Frag} {mg : Str → Option Value} {base : Heap} {f : Addr} {fd : FuncData} {n m N : Nat}
def spBm (K : PySem.W.Frag) (n : Nat) : Sp := fun vs H Q _ => ∃ (p q : Addr) (B : Blk) (a b : Pt), vs = [.ref p, .ref q] ∧ Bl K n H p B ∧ Pc K n H q a b ∧ RetV (.bl (decide (SatB B a b))) H Q
abbrev sBm : Stmt := top 29
theorem scBm : FnScope ["block", "piece", "left", "low", "right", "high"] ["block", "piece"] (defScope sBm) := ⟨rfl, rfl, rfl, by decide +kernel, rfl, by decide +kernel, by decide +kernel⟩
theorem ok_bm (F : FnP K "block_meets" sBm f fd) (O_blocks_meet : Own P w K mg base 1 "blocks_meet" ["one", "other"] (spBlm K n)) (O_box_around : Own P w K mg base 1 "box_around" ["piece"] (spBox K n)) (O_beside : Own P w K mg base 3 "beside" ["piece", "places"] (spBes K n)) : FnOk P w K mg base CX0 4 f fd ["block", "piece"] (spBm K n) := by
  have nd := scBm.nd
  refine F.ok scBm (fun vs H Q E h => ?_) (fun cdv A outer s H vs Q E hr h => ⟨_, PSs.nox (pss_cons (ps_if (pt_not (pt_val (Hs.pe_own O_blocks_meet hr (by first | decide | omega) (by rfl) (pa_cons (pv 0) (pa_cons (Hs.pe_own O_box_around hr (by first | decide | omega) (by rfl) (pa_cons (pv 1) pa_nil)) pa_nil))))) (pss_one (ps_ret pe_bl)) pss_nil)
  (pss_cons (ps_asg (pv 0) (pg_tup rfl (pgs_cons (pg_name (i := 2) nd rfl (.inl rfl)) (pgs_cons (pg_name (i := 3) nd rfl (.inl rfl)) (pgs_cons (pg_name (i := 4) nd rfl (.inl rfl)) (pgs_cons (pg_name (i := 5) nd rfl (.inl rfl)) pgs_nil))))))
  (pss_one (ps_ret (pe_not (Hs.pe_own O_beside hr (by first | decide | omega) (by rfl) (pa_cons (pv 1) (pa_cons (pe_lst (pa_cons (pe_tup (pa_cons (pv 2) (pa_cons (pv 3) pa_nil))) (pa_cons (pe_tup (pa_cons (pv 4) (pa_cons (pv 3) pa_nil))) (pa_cons (pe_tup (pa_cons (pv 4) (pa_cons (pv 5) pa_nil))) (pa_cons (pe_tup (pa_cons (pv 2) (pa_cons (pv 5) pa_nil))) pa_nil))))) pa_nil)))))))), ?_⟩)
  · obtain ⟨p, q, B, a, b, rfl, _⟩ := h
    rfl
  · obtain ⟨p, q, B, a, b, rfl, hp, hq, k⟩ := h
    refine q_when (b := !decide (BoxM B (boxOf a b))) (et_not (et_B (fun H1 e Q q' => ⟨_, rfl, eu_box (K := K) (n := n) (i := 1) (p := q) (a := a) (b := b) (σ := [some (.ref p), some (.ref q), none, none, none, none]) (E := E0) rfl (hq.ext e) H1 (Ex.refl _) _ fun t H2 nt e2 ht => ⟨p, t, B, boxOf a b, rfl, hp.ext (e.trans e2), ⟨st_of ht, hq.bdL⟩, fun H3 e3 => q' H3 (e2.trans e3)⟩⟩))) (fun ht H1 e1 => ?_) (fun ht H1 e1 => ?_)
    · have hb : ¬ BoxM B (boxOf a b) := fun z => by
        rw [decide_eq_true z] at ht
        exact Bool.noConfusion ht
      rw [decide_eq_false (fun z : SatB B a b => hb z.1)] at k
      exact s_ret ev_c fun H2 e2 => k _ (e1.trans e2)
    · have hb : BoxM B (boxOf a b) := Decidable.byContradiction fun z => by
        rw [decide_eq_false z] at ht
        exact Bool.noConfusion ht
      have ek : decide (SatB B a b) = !decide (Bes a b (corners B)) := by
        rw [Bool.eq_iff_iff, Bool.not_eq_true', decide_eq_true_eq, decide_eq_false_iff_not]
        exact ⟨fun z => z.2, fun z => ⟨hb, z⟩⟩
      rw [ek] at k
      refine ⟨_, rfl, p, _, rfl, (hp.ext e1).1, rfl, _, _, rfl, _, _, rfl, _, _, rfl, _, _, rfl, rfl, ?_⟩
      refine ⟨_, rfl, _, rfl, _, rfl, sz_of (by simp), fun t1 h1 => ⟨_, rfl, _, rfl, sz_of (by simp), fun t2 h2 => ⟨_, rfl, _, rfl, sz_of (by simp), fun t3 h3 => ⟨_, rfl, _, rfl, sz_of (by simp), fun t4 h4 => ⟨sz_of (by simp), fun tl hl => ?_⟩⟩⟩⟩⟩
      have x1 := Ex.new (o := .tup (prV (B.left, B.low))) h1
      have x2 := Ex.new (o := .tup (prV (B.right, B.low))) h2
      have x3 := Ex.new (o := .tup (prV (B.right, B.high))) h3
      have x4 := Ex.new (o := .tup (prV (B.left, B.high))) h4
      have x5 := Ex.new (o := .lst [V.ref t1, .ref t2, .ref t3, .ref t4]) hl
      have x45 := x4.trans x5
      have x35 := x3.trans x45
      have x25 := x2.trans x35
      have x15 := (e1.trans x1).trans x25
      obtain ⟨b1, b2, b3, b4⟩ := hp.2
      refine .inr ⟨q, tl, a, b, [t1, t2, t3, t4], corners B, rfl, hq.ext x15, sq_of upd_same, ⟨rfl, fun i r z hr' hz => ?_⟩, by show 0 < 4; decide, by show 4 ≤ 100; decide, fun H2 e2 => ⟨_, rfl, k H2 (x15.trans e2)⟩⟩
      match i, hr', hz with
      | 0, hr', hz => cases hr'; cases hz; exact ⟨st_of (x25 _ _ upd_same), b1, b2⟩
      | 1, hr', hz => cases hr'; cases hz; exact ⟨st_of (x35 _ _ upd_same), b3, b2⟩
      | 2, hr', hz => cases hr'; cases hz; exact ⟨st_of (x45 _ _ upd_same), b3, b4⟩
      | 3, hr', hz => cases hr'; cases hz; exact ⟨st_of (x5 _ _ upd_same), b1, b4⟩
      | i + 4, hr', hz => cases hr'
end
end Hs
namespace Hs
open PySem PySem.Spec PyProof.Rows L2 Evl
section
variable {P : Program} {w : World} {K : PySem.W.Frag} {mg : Str → Option Value} {base : Heap} {f : Addr} {fd : FuncData} {n m N : Nat}
def spCorn (K : PySem.W.Frag) (n : Nat) : Sp := fun vs H Q _ => ∃ (p : Addr) (B : Blk), vs = [.ref p] ∧ Bl K n H p B ∧ ∀ (r t1 t2 t3 t4 : Addr) (H2 : Hp), H r = none → Ex H H2 → H2 r = some (.lst [.ref t1, .ref t2, .ref t3, .ref t4]) → H2 t1 = some (.tup (prV (B.left, B.low))) → H2 t2 = some (.tup (prV (B.right, B.low))) → H2 t3 = some (.tup (prV (B.right, B.high))) → H2 t4 = some (.tup (prV (B.left, B.high))) → Q (.ref r) H2
abbrev sCorn : Stmt := top 109
theorem scCorn : FnScope ["_law_block_here", "_law_left", "_law_low", "_law_east", "_law_high"] ["_law_block_here"] (defScope sCorn) := ⟨rfl, rfl, rfl, by decide +kernel, rfl, by decide +kernel, by decide +kernel⟩
theorem ok_corn (F : FnP K "_law_corners" sCorn f fd) : FnOk P w K mg base CX0 1 f fd ["_law_block_here"] (spCorn K n) := by
  have nd := scCorn.nd
  refine F.ok scCorn (fun vs H Q E h => ?_) (fun cdv A outer s H vs Q E hr h => ⟨_, PSs.nox (pss_cons (ps_asg (pv 0) (pg_tup rfl (pgs_cons (pg_name (i := 1) nd rfl (.inl rfl)) (pgs_cons (pg_name (i := 2) nd rfl (.inl rfl)) (pgs_cons (pg_name (i := 3) nd rfl (.inl rfl)) (pgs_cons (pg_name (i := 4) nd rfl (.inl rfl)) pgs_nil))))))
  (pss_one (ps_ret (pe_lst (pa_cons (pe_tup (pa_cons (pv 1) (pa_cons (pv 2) pa_nil))) (pa_cons (pe_tup (pa_cons (pv 3) (pa_cons (pv 2) pa_nil))) (pa_cons (pe_tup (pa_cons (pv 3) (pa_cons (pv 4) pa_nil))) (pa_cons (pe_tup (pa_cons (pv 1) (pa_cons (pv 4) pa_nil))) pa_nil)))))))), ?_⟩)
  · obtain ⟨p, B, rfl, _⟩ := h
    rfl
  · obtain ⟨p, B, rfl, hp, k⟩ := h
    refine ⟨_, rfl, p, _, rfl, hp.1, rfl, _, _, rfl, _, _, rfl, _, _, rfl, _, _, rfl, rfl, ?_⟩
    refine ⟨_, rfl, _, rfl, sz_of (by simp), fun t1 h1 => ⟨_, rfl, _, rfl, sz_of (by simp), fun t2 h2 => ⟨_, rfl, _, rfl, sz_of (by simp), fun t3 h3 => ⟨_, rfl, _, rfl, sz_of (by simp), fun t4 h4 => ⟨sz_of (by simp), fun tl hl => ?_⟩⟩⟩⟩⟩
    have x1 := Ex.new (o := .tup (prV (B.left, B.low))) h1
    have x2 := Ex.new (o := .tup (prV (B.right, B.low))) h2
    have x3 := Ex.new (o := .tup (prV (B.right, B.high))) h3
    have x4 := Ex.new (o := .tup (prV (B.left, B.high))) h4
    have x5 := Ex.new (o := .lst [V.ref t1, .ref t2, .ref t3, .ref t4]) hl
    have x45 := x4.trans x5
    have x35 := x3.trans x45
    have x25 := x2.trans x35
    have x15 := x1.trans x25
    exact k tl t1 t2 t3 t4 _ (fresh_back ((x1.trans x2).trans (x3.trans x4)) hl) x15 upd_same (x25 _ _ upd_same) (x35 _ _ upd_same) (x45 _ _ upd_same) (x5 _ _ upd_same)
end
end Hs
namespace Hs
open PySem PySem.Spec PyProof.Rows L2
/-! ### own error classes whose __init__ begins with super().__init__(..) -/
section
open PySem.W
variable {prog : Program} {w : World} {A : Around} {E : Value → Shared → Prop} {h : Heap} {g : Array GenState} {d : Drawn} {t : Nat} {os : OsState}
variable {nm q : Str} {C N : Addr} {bs bm bmB : List Value} {hdct : Bool} {sn : List Str} {sub : List Value} {ab : Bool} {col : Option Bool} {dd : Option Addr} {k0 k1 k2 k3 k5 : Option Value} {B newId initId : String}
theorem call_mw (FB : ExcBaseFacts B newId initId bmB) {u e t0 : Addr} {rest : List Value} {Q : Value → Shared → Prop}
    (hC : h.get? C = some (excClassObj nm q C N bs bm hdct sn sub ab col dd k0 k1 k2 k3 k5 newId)) (he : h.get? e = some (HandSPX.excO C t0)) (hu : h.get? u = some (kxs_mw initId e)) (hrest : rest.length ≤ sizeLine)
    (hq : ∀ h' t1, (∀ b o, b ≠ e → h.get? b = some o → h'.get? b = some o) → h'.get? e = some (HandSPX.excO C t1) → Q .none ⟨h', g, d, t, os⟩) :
    wpAny (model prog w) A (call (.ref u) rest) Q E ⟨h, g, d, t, os⟩ := by
  refine wpAny_call (codeAny_of_tree ?_)
  show wpAny _ A.in1 (callAny (.ref u) ⟨rest, []⟩) _ _ _
  simp only [callAny]
  refine wpAny_bind (wpAny_load hu ?_)
  simp only [kxs_mw, show (Value.type "method-wrapper" == Value.type "method" || Value.type "method-wrapper" == Value.type "builtin_function_or_method" || Value.type "method-wrapper" == Value.type "method-wrapper") = true by decide, if_true]
  refine KFB.if_so (by decide) ?_
  refine wpAny_bind (ESX.check_bound FB hC he rfl ?_)
  refine wpAny_bind (wpAny_pure (wpAny_pure ?_))
  refine ⟨plainId_quiet FB.init.plain _, codeAny_builtin FB.initEntry ?_⟩
  exact exc_init_tree (cls := .ref C) (t0 := t0) (dv := none) (c2 := .none) (c3 := .none) (b4 := .bool false) he hrest fun h' k e' _ => hq h' _ k e'
end
end Hs
namespace Hs
open PySem PySem.Spec PyProof.Rows L2
/-! ### own errors over any of Python's plain bases -/
/-- what is known of a base of Python's -/
structure BasX (B newId initId : String) (bmB : List Value) : Prop where
  eb : ExcBaseFacts B newId initId bmB
  st : StoreFacts B bmB "object.__setattr__" "object"
  kx : PySem.W.KxsFacts B initId
abbrev tailOf (B : String) : List Value := [.type B, .type "Exception", .type "BaseException", .type "object"]
theorem basV : BasX "ValueError" "ValueError.__new__" "ValueError.__init__" (tailOf "ValueError") := ⟨F.excBase_ValueError, F.store_ValueError, PySem.W.kxs_ValueError⟩
theorem basR : BasX "RuntimeError" "RuntimeError.__new__" "RuntimeError.__init__" (tailOf "RuntimeError") := ⟨F.excBase_RuntimeError, F.store_RuntimeError, PySem.W.kxs_RuntimeError⟩
theorem basL : BasX "LookupError" "LookupError.__new__" "LookupError.__init__" (tailOf "LookupError") := ⟨F.excBase_LookupError, F.store_LookupError, PySem.W.kxs_LookupError⟩
/-- an own class over such a base, as it is written -/
structure OexG (K : PySem.W.Frag) (C : Addr) (newId : String) (bmB : List Value) : Prop where
  cls : ∃ nm q N bs bm sn sub ab col dd k0 k1 k2 k3 k5, K.lookup C = some (excClassObj nm q C N bs bm true sn sub ab col dd k0 k1 k2 k3 k5 newId) ∧ PySem.W.excTail bmB bm = true
  sa : PySem.W.findIn K (.ref C) "__setattr__" = some (some (.builtin "object.__setattr__"))
  exC : PySem.W.subIn K (.ref C) (.type "BaseException") = some true
  tyC : PySem.W.typeIn K (.ref C) = some (.type "type")
  kC : PySem.W.keepIn K (.ref C) = true
section
variable {K : PySem.W.Frag} {C : Addr} {newId : String} {bmB : List Value}
theorem OexG.over (T : OexG K C newId bmB) : PySem.W.excOver K C bmB = true := by
  obtain ⟨nm, q, N, bs, bm, sn, sub, ab, col, dd, k0, k1, k2, k3, k5, hC, ht⟩ := T.cls
  unfold PySem.W.excOver PySem.W.clsIn
  rw [hC]
  show ((C == C) && PySem.W.excTail bmB bm) = true
  simp [ht]
theorem OexG.cd (T : OexG K C newId bmB) : ∃ cd, PySem.W.clsIn K C = some cd ∧ cd.hasDict = true := by
  obtain ⟨nm, q, N, bs, bm, sn, sub, ab, col, dd, k0, k1, k2, k3, k5, hC, ht⟩ := T.cls
  refine ⟨{ name := nm, bases := bs, mro := .ref C :: bm, ns := N, qualname := q, hasDict := true, slotNames := sn, subclasses := sub, abstract := ab, collection := col, hasDel := false }, ?_, rfl⟩
  unfold PySem.W.clsIn
  rw [hC] <;> rfl
theorem taker_no {f : Str} (h : PySem.W.findIn K (.ref C) f = some none) : PySem.W.takerIn K C f = some none := by
  unfold PySem.W.takerIn
  rw [h] <;> rfl
end
section
open Builtin Builtin.ObjectAttr
variable {prog : Program} {w : World} {A : Around} {R : Result → Shared → Prop} {hp : Heap} {g : Array GenState} {d : Drawn} {t : Nat} {os : OsState} {K : PySem.W.Frag} {C x : Addr} {B newId initId : String} {bmB : List Value}
/-- the first field: the dict is made -/
theorem put_new (bx : BasX B newId initId bmB) (T : OexG K C newId bmB) (kin : K.In hp) {fl : Str} {tk : Tok} {u : Value} {fv : Array Value} (hx : hp.get? x = some { cls := .ref C, data := .fields fv }) (hno : PySem.W.findIn K (.ref C) fl = some none)
    (fin : ∀ hq tq dx, (∀ b o, b ≠ x → hp.get? b = some o → hq.get? b = some o) → hp.objs.size ≤ dx → dx ≠ x → hq.get? x = some { cls := .ref C, dict := some dx, data := .fields fv } → hq.Ns1 dx (fun y => if y = fl then some u else none) → R (.ok (.ret .none)) ⟨hq, g, d, tq, os⟩) :
    codeAny (model prog w) A (.call (.builtin "object.__setattr__") ⟨[.ref x, .str fl tk, u], []⟩) R ⟨hp, g, d, t, os⟩ := by
  obtain ⟨cd, hcd, hdc⟩ := T.cd
  have lk : PySem.W.Looks (model prog w) hp (classData C) cd := PySem.W.looks_clsIn kin hcd
  have far : x ≠ hp.objs.size := Nat.ne_of_lt (Heap.lt_size hx)
  refine PySem.W.osa_openX (s := ⟨hp, g, d, t, os⟩) (od := none) (ox := { cls := .ref C, data := .fields fv }) bx.st kin ⟨hx, rfl, rfl, trivial⟩ T.over (taker_no hno) fun bb => ?_
  obtain ⟨c1, c2, c3, c4, c5, c6, c7, c8, c9, c10, c11⟩ := cd
  dsimp only at hdc
  subst hdc
  unfold storeInOwnDict ownDictForStores
  repeat (first | with_reducible refine HandSPX.store_in_new ?_ ?_ | with_reducible refine wpAny_loadPart_at hx ?_ | with_reducible refine lk.at ?_ | wp_step)
  · exact ⟨_, #[], _, (Heap.get?_update_ne _ _ _ _ far.symm).trans (Heap.get?_push_at rfl rfl), rfl, fun z hz => absurd hz (by simp), fun _ => rfl⟩
  · intro hq tq hn sm
    have old : (hp.push { cls := .type "dict", data := .dict #[] }).get? x = some { cls := .ref C, data := .fields fv } := Heap.get?_push_of_some _ hx
    refine fin hq tq hp.objs.size (fun b o nb ho => ?_) (Nat.le_refl _) far.symm ((sm.2 x far).trans (Heap.get?_update_self _ old rfl)) hn
    rw [sm.2 b (Nat.ne_of_lt (Heap.lt_size ho)), Heap.get?_update_ne _ _ _ _ nb]
    exact Heap.get?_push_of_some _ ho
/-- a further field -/
theorem put_more (bx : BasX B newId initId bmB) (T : OexG K C newId bmB) (kin : K.In hp) {fl : Str} {tk : Tok} {u : Value} {fv : Array Value} {dx : Addr} {m0 : Str → Option Value} {nl : List Str} (hx : hp.get? x = some { cls := .ref C, dict := some dx, data := .fields fv }) (hns : hp.Ns1 dx m0) (hw : Within m0 nl) (hz : nl.length ≤ 1000) (hno : PySem.W.findIn K (.ref C) fl = some none)
    (fin : ∀ hq tq, (∀ b o, b ≠ dx → hp.get? b = some o → hq.get? b = some o) → hq.Ns1 dx (fun y => if y = fl then some u else m0 y) → R (.ok (.ret .none)) ⟨hq, g, d, tq, os⟩) :
    codeAny (model prog w) A (.call (.builtin "object.__setattr__") ⟨[.ref x, .str fl tk, u], []⟩) R ⟨hp, g, d, t, os⟩ := by
  obtain ⟨cd, hcd, hdc⟩ := T.cd
  have lk : PySem.W.Looks (model prog w) hp (classData C) cd := PySem.W.looks_clsIn kin hcd
  obtain ⟨oD, q1, q2, hoD, q3, q4⟩ := hns.count hw
  refine PySem.W.osa_openX (s := ⟨hp, g, d, t, os⟩) (od := some oD) (ox := { cls := .ref C, dict := some dx, data := .fields fv }) bx.st kin ⟨hx, rfl, rfl, hoD⟩ T.over (taker_no hno) fun bb => ?_
  obtain ⟨c1, c2, c3, c4, c5, c6, c7, c8, c9, c10, c11⟩ := cd
  dsimp only at hdc
  subst hdc
  unfold storeInOwnDict ownDictForStores
  repeat (first | with_reducible refine OEX.store_in_old hns hw hz ?_ | with_reducible refine wpAny_loadPart_at hx ?_ | with_reducible refine lk.at ?_ | wp_step)
  exact fun hq tq hn sm => fin hq tq (fun b o nb ho => (sm.2 b nb).trans ho) hn
end
section
variable {X : Cx} {pins : List (Addr × Obj)} {σ : L2.St} {H : Hp} {s : Shared} {a C dx : Addr} {fl : Str} {y : V} {u : Value} {fs : List (Str × V)} {Q : Unit → Shared → Prop} {E : Value → Shared → Prop} {A : Around} {B newId initId : String} {bmB : List Value}
theorem set_new (bx : BasX B newId initId bmB) (T : OexG X.K C newId bmB) (I : Inv X pins σ H s) (ea : H a = some (exo a C none)) (hno : PySem.W.findIn X.K (.ref C) fl = some none) (ry : RelV y u)
    (k : ∀ dx s', H dx = none → dx ≠ a → Inv X pins σ (upd (upd H dx (exd dx [(fl, y)])) a (exo a C (some dx))) s' → Q () s') : wpAny (model X.prog X.w) A (setAttr (.ref a) fl u) Q E s := by
  obtain ⟨t1, ho⟩ := exo_at I.hok ea
  obtain ⟨hp, g, d, t, os⟩ := s
  refine PySem.W.set_plain (od := none) I.kIn (ox := { cls := .ref C, dict := none, data := .fields #[.ref t1, .none, .none, .none, .bool false, .none] }) ⟨ho, rfl, rfl, trivial⟩ T.sa ?_
  refine put_new bx T I.kIn ho hno fun hq tq dx stay dn dne hx hn => ?_
  have fresh : H dx = none := I.hok.fresh dn
  have nda : ∀ {b : Addr}, H b = none → b ≠ a := fun nb z => by
    rw [z, ea] at nb
    cases nb
  have ndx : ∀ {b : Addr} {ob : Obj}, hp.get? b = some ob → b ≠ dx := fun qq => Nat.ne_of_lt (Nat.lt_of_lt_of_le (Heap.lt_size qq) dn)
  have two : ∀ {b : Addr} {v : HO}, H b = some v → exo a C none ≠ v → upd (upd H dx (exd dx [(fl, y)])) a (exo a C (some dx)) b = some v := fun {b v} hb hne => by
    rw [upd_ne (at_ne ea hb hne), upd_ne (ne_of_none hb fresh)]
    exact hb
  have un : Un X.fs [] H (upd (upd H dx (exd dx [(fl, y)])) a (exo a C (some dx))) hp hq := by
    constructor
    · exact fun b o hb nb _ _ => stay b o (nda nb) hb
    · exact fun b o hb nb _ _ => ⟨o.slots, stay b o (nda nb) hb⟩
    · intro b o hb nb _
      rw [upd_ne (nda nb), upd_ne (ndx hb)]
      exact nb
    · intro b o hb _
      by_cases e : b = a
      · rw [e]
        exact ⟨_, hx⟩
      · exact ⟨o, stay b o e hb⟩
    · exact fun b xs hb => two hb exo_tup
    · exact fun b o v hb => two hb exo_frz
    · intro b ps hb
      refine ⟨#[], ?_⟩
      rw [two hb exo_tbl, Array.append_empty]
  refine k dx _ fresh dne (I.un (t' := tq) un fun b o hb => ?_)
  by_cases e1 : b = a
  · rw [e1, upd_same] at hb
    cases hb
    rw [e1]
    exact exo_ok hx
  · rw [upd_ne e1] at hb
    by_cases e2 : b = dx
    · rw [e2, upd_same] at hb
      cases hb
      rw [e2]
      exact exd_ok hn (relO_put (fs := []) ry fun _ => True.intro)
    · rw [upd_ne e2] at hb
      refine (I.hok b o hb).stay (fun c v hc hv => stay c v ?_ hv) (fun c hc => two hc exo_own) (fun c xs hc => two hc exo_tup)
      rcases hc with rfl | hc
      · exact e1
      · exact at_ne ea hc exo_own
theorem set_more (bx : BasX B newId initId bmB) (T : OexG X.K C newId bmB) (I : Inv X pins σ H s) (ea : H a = some (exo a C (some dx))) (ed : H dx = some (exd dx fs)) (hl : fs.length ≤ 900) (hno : PySem.W.findIn X.K (.ref C) fl = some none) (ry : RelV y u)
    (k : ∀ s', Inv X pins σ (upd H dx (exd dx ((fl, y) :: fs))) s' → Q () s') : wpAny (model X.prog X.w) A (setAttr (.ref a) fl u) Q E s := by
  obtain ⟨t1, ho⟩ := exo_at I.hok ea
  obtain ⟨mA, hns, rel⟩ := exd_at I.hok ed
  obtain ⟨oD, _, _, hoD, _, _⟩ := hns.count (within_of rel)
  obtain ⟨hp, g, d, t, os⟩ := s
  refine PySem.W.set_plain (od := some oD) I.kIn (ox := { cls := .ref C, dict := some dx, data := .fields #[.ref t1, .none, .none, .none, .bool false, .none] }) ⟨ho, rfl, rfl, hoD⟩ T.sa ?_
  refine put_more bx T I.kIn ho hns (within_of rel) (by rw [List.length_map]; omega) hno fun hq tq stay hn => k _ ?_
  refine I.write (t' := tq) (x := dx) (e := dx) (by rw [ed]; exact True.intro) (.inl rfl) stay ?_ (exd_ok hn (relO_put ry rel))
  obtain ⟨oq, _, _, hoq, _⟩ := hn
  exact ⟨oq, hoq⟩
end
/-- self.f = e, of an error that is being made -/
def tPut (K : PySem.W.Frag) (newId : String) (bmB : List Value) (fl : Str) (to te : TE) : TS := fun D σ H => te σ H fun y H1 => to σ H1 fun x H2 => ∃ a C : Addr, x = .ref a ∧ OexG K C newId bmB ∧ PySem.W.findIn K (.ref C) fl = some none ∧
  ((H2 a = some (exo a C none) ∧ ∀ dx, H2 dx = none → dx ≠ a → D.nx σ (upd (upd H2 dx (exd dx [(fl, y)])) a (exo a C (some dx)))) ∨
    ∃ (dx : Addr) (fs : List (Str × V)), (H2 a = some (exo a C (some dx)) ∧ H2 dx = some (exd dx fs) ∧ fs.length ≤ 900) ∧ D.nx σ (upd H2 dx (exd dx ((fl, y) :: fs))))
theorem ps_put {X : Cx} {o e : Expr} {to te : TE} {fl : Str} {p' pos : Pos} {B newId initId : String} {bmB : List Value} (bx : BasX B newId initId bmB) (ho : PE X o to) (he : PE X e te) (hs : swapsWith e (some (.Attribute o fl p')) pos.line X.env = pure false := by rfl) : PS X (.Assign [.Attribute o fl p'] e pos) (tPut X.K newId bmB fl to te) := by
  refine ⟨fun pins s σ H D I h => ?_⟩
  refine plainObj_wpAny_Assign_Attribute (thn (he.run pins s σ H _ I h) fun v s1 ⟨y, H1, I1, r1, q1⟩ => thn (ho.run pins s1 σ H1 _ I1 q1) fun ux s2 ⟨x, H2, I2, r2, hh⟩ => ?_) hs
  obtain ⟨a, C, rfl, T, hno, q⟩ := hh
  obtain rfl : ux = Value.ref a := r2
  rcases q with ⟨ea, q⟩ | ⟨dx, fs, ⟨ea, ed, hl⟩, q⟩
  · exact set_new bx T I2 ea hno r1 fun dx s' n ne J => ⟨σ, _, J, q dx n ne⟩
  · exact set_more bx T I2 ea ed hl hno r1 fun s' J => ⟨σ, _, J, q⟩
end Hs
namespace Hs
open PySem PySem.Spec PyProof.Rows L2
/-- what the written part says of an own error class over ValueError, of its __init__ and of what super() asks -/
structure SupC (P : Program) (K : PySem.W.Frag) (mg : Str → Option Value) (C c cc : Addr) (B newId initId : String) (bmB : List Value) : Prop where
  ox : OexG K C newId bmB
  code : ∃ (ccl : Value) (cdd : Option Addr) (vs : Array Value) (ccs : Array (Option Value)) (file : Str) (tf : Tok), K.lookup c = some ⟨ccl, cdd, .fields vs, ccs⟩ ∧ vs[2]? = some (.str file tf) ∧ ((P.main.file : Str) == file) = true
  cell : ∃ (cl : Value) (cld : Option Addr) (csl : Array (Option Value)), K.lookup cc = some ⟨cl, cld, .cell (some (.ref C)), csl⟩
  me : PySem.W.mroIn K C (.ref C) = some true
  sup : PySem.W.ks_superIn K C C "__init__" = some (some (.builtin initId))
  ve : PySem.W.subIn K (.ref C) (.type B) = some true
  op : PySem.W.nsIn K cStatics "thirdparty.any" = some none
  gs : mg "super" = none
  top : (P.main.scope.names.lookup ("super" : Str)).isSome = false
theorem sup_walk {X : Cx} {σ : L2.St} {H : Hp} {s : Shared} {C f c cc a : Addr} {fd : FuncData} {oc : Value} {od : Option Addr} {osl : Array (Option Value)} {ar : Arg} {body : List Stmt} {p0 p1 p2 p3 pos0 : Pos} {e : Expr} {ta : TA} {R : Hp → Prop} {pl : Sem Bool}
    {B newId initId : String} {bmB : List Value} (bx : BasX B newId initId bmB) (T : SupC X.prog X.K X.mg C c cc B newId initId bmB) (I : Inv X [] σ H s) (lk : X.K.lookup f = some ⟨oc, od, .func fd, osl⟩) (hp : (fd.params.posonlyargs ++ fd.params.args).head? = some ar)
    (hfu : X.env.func = some f) (hco : X.env.code = .ref c) (hce : X.env.cells.lookup ("__class__" : Str) = some cc) (hks : X.env.kindOf "super" = some .globalImplicit) (hkc : X.env.kindOf "__class__" = some .free) (hN0 : X.N[0]? = some ar.arg) (hl0 : X.env.kindOf ar.arg = some .local)
    (h0 : σ[0]? = some (some (.ref a))) (ea : H a = some (exo a C none)) (hPA : PA X [e] ta) (ht : ta σ H fun us H1 => us.length ≤ 1000 ∧ H1 a = some (exo a C none) ∧ R H1)
    (hst : starEach [e] X.env = [(false, eval e X.env)])
    (hi : interactive X.env = false := by rfl) (hsw : swapsWith (.Call (.Attribute (.Call (.Name "super" p0) [] [] p1) "__init__" p2) [e] [] p3) none pos0.line X.env = pure false := by rfl)
    (he : eval (.Call (.Attribute (.Call (.Name "super" p0) [] [] p1) "__init__" p2) [e] [] p3) X.env = (do
      let ov ← attributeBase (.Call (.Name "super" p0) [] [] p1) "__init__" X.env (eval (.Call (.Name "super" p0) [] [] p1) X.env)
      standAt p2.atName
      let (f, first) ← holding [ov] (getMethod ov "__init__" pl)
      callWith p3 f first (backTo p3 (starEach [e] X.env)) []) := by rfl) :
    _root_.PySem.wpAt (model X.prog X.w) X.A (.func body X.env) (exec (.Expr (.Call (.Attribute (.Call (.Name "super" p0) [] [] p1) "__init__" p2) [e] [] p3) pos0) X.env) (fun fl s' => fl = .next ∧ ∃ H1, Inv X [] σ H1 s' ∧ R H1) X.xe s := by
  obtain ⟨ccl, cdd, vsc, ccs, file, tf, hcode, hv2, hfile⟩ := T.code
  obtain ⟨cl0, cld0, csl0, hcell⟩ := T.cell
  obtain ⟨nm, q, Nn, bs, bm, sn, sub, ab, col, dd, k0, k1, k2, k3, k5, hC, hbm⟩ := T.ox.cls
  have hcl : PySem.W.clsIn X.K C = some { name := nm, bases := bs, mro := .ref C :: bm, ns := Nn, qualname := q, hasDict := true, slotNames := sn, subclasses := sub, abstract := ab, collection := col, hasDel := false } := by unfold PySem.W.clsIn; rw [hC] <;> rfl
  have KX := I.kIn
  obtain ⟨t1, ho⟩ := exo_at I.hok ea
  have hkind := I.ok.kind
  obtain ⟨mb, hb1, hb2⟩ := I.mod.blt
  obtain ⟨m, hns, hloc⟩ := id I.loc
  obtain ⟨u0, ru, lk0⟩ := hloc 0 ar.arg (.ref a) hN0 h0 (.inl hl0)
  obtain rfl : u0 = Value.ref a := ru
  have hself : m ar.arg = some (.ref a) := by
    rcases lk0 with ⟨_, z⟩ | ⟨z | z, _⟩
    · exact z
    · rw [hl0] at z
      cases z
    · rw [hl0] at z
      cases z
  have hDo := KX _ _ hC
  obtain ⟨hp0, g0, d0, tk0, os0⟩ := s
  refine ks_wpAt_Expr_any (ks_wpAt_MethodCall (pl := pl) ?_ he) hi hsw
  refine ks_wpAt_super_base (env := X.env) hks hkc (by decide) hfu (KX _ _ lk) rfl hp hco (KX _ _ hcode) rfl hv2 hfile T.top ?_
  refine PySem.W.ks_loadName_global hkind hks (Calls.loadGlobal_builtin (env := X.env) (by rw [I.ok.glob]; exact I.mod.glob.keeps I.bk) T.gs (by rw [I.ok.blt]; exact hb1.keeps I.bk) ((hb2 "super" (by decide)).trans (by decide +kernel)) ⟨rfl, ?_⟩)
  refine wpAny_loadName_free hkind hkc hce ⟨_, KX _ _ hcell, rfl⟩ ?_
  refine wpAny_loadName_local hkind hl0 hns hself ?_
  refine ks_wpAny_isType_cls hDo rfl ⟨rfl, ?_⟩
  refine ks_wpAny_call_super hDo rfl ho rfl (fun _ z => by cases z) (PySem.W.looks_mroIn KX T.me) fun h1 e1 kp1 => ?_
  have I1 : Inv X [] σ H ⟨h1, g0, d0, tk0, os0⟩ := I.kept (t' := tk0) kp1
  have KX1 := I1.kIn
  obtain ⟨t2, ho1⟩ := exo_at I1.hok ea
  have hI : PySem.W.Looks (model X.prog X.w) h1 (isInstance (.ref a) (.type B)) true := (show PySem.W.InstAt h1 a _ C none from ⟨ho1, rfl, rfl, trivial⟩).type.andThen (PySem.W.looks_subIn KX1 T.ve)
  have hmro : PySem.W.Looks (model X.prog X.w) h1 (mroOf (.ref C)) (.ref C :: bm) := (PySem.W.looks_clsIn KX1 hcl).andThen .now
  have hsupr := T.sup
  unfold PySem.W.ks_superIn at hsupr
  rw [hcl] at hsupr
  have hxC : a ≠ C := fun z => by
    have w1 := KX1 _ _ hC
    rw [← z, ho1] at w1
    cases w1
  refine PySem.W.kxs_getMethod bx.kx e1 (PySem.W.looks_opaque KX1 T.op) hmro rfl KX1 hsupr hI hxC (by decide) ?_
  have kp2 : ∀ b o, h1.get? b = some o → (h1.push (PySem.W.kxs_mw initId a)).get? b = some o := fun b o z => Heap.get?_push_of_some _ z
  have I2 : Inv X [] σ H ⟨h1.push (PySem.W.kxs_mw initId a), g0, d0, tk0 + 1, os0⟩ := I1.kept (t' := tk0 + 1) kp2
  have hu2 : (h1.push (PySem.W.kxs_mw initId a)).get? h1.objs.size = some (PySem.W.kxs_mw initId a) := Heap.get?_push_at rfl rfl
  have nu : H h1.objs.size = none := I1.hok.fresh (Nat.le_refl _)
  have I3 : Inv X [(h1.objs.size, PySem.W.kxs_mw initId a)] σ H ⟨h1.push (PySem.W.kxs_mw initId a), g0, d0, tk0 + 1, os0⟩ := I2.pins_of fun p hp => by
    rcases List.mem_cons.mp hp with z | z
    · subst z
      exact ⟨hu2, nu, fun z => Nat.lt_irrefl _ (z ▸ I1.lt), I1.nofs (Nat.le_refl _), fun v z => by cases z⟩
    · cases z
  show wpAny _ _ (callWith p3 (.ref h1.objs.size) [] (backTo p3 (starEach [e] X.env)) []) _ _ _
  have run := hPA.run p3 _ _ σ H _ I3 ht
  rw [hst] at run ⊢
  refine PySem.W.kxs_callWith (i := initId) (x := a) rfl (Calls.evalArgs_plain (wpAny_mono run (fun us s2 z => ?_) fun _ _ z => z))
  obtain ⟨vs2, H2, I4, r4, hz, ea2, hR⟩ := z
  have hu4 := (I4.pin (h1.objs.size, PySem.W.kxs_mw initId a) (List.mem_append_right _ (List.mem_cons_self ..))).1
  obtain ⟨t4, ho4⟩ := exo_at I4.hok ea2
  have hlen : us.length ≤ sizeLine := by
    rw [← Paired.length r4, sizeLine_eq]
    omega
  obtain ⟨hp4, g4, d4, tk4, os4⟩ := s2
  refine ⟨hu4, call_mw bx.eb (I4.kIn _ _ hC) ho4 hu4 hlen fun h' t5 k5 hx5 => ⟨rfl, H2, ?_, hR⟩⟩
  have J := I4.write (t' := tk4) (x := a) (e := a) (o := exo a C none) (by rw [ea2]; exact True.intro) (.inl rfl) k5 ⟨_, hx5⟩ (exo_ok hx5)
  have eu : upd H2 a (exo a C none) = H2 := by
    funext b
    by_cases hb : b = a
    · rw [hb, upd_same, ea2]
    · rw [upd_ne hb]
  rw [eu] at J
  exact J.pins_of fun p hp => by cases hp
theorem sup_ok {P : Program} {w : World} {K : PySem.W.Frag} {mg : Str → Option Value} {base : Heap} {k : Nat} {N ps : List Str} {C f c cc : Addr} {name qual : Str} {params : Arguments} {p0 p1 p2 p3 pos0 : Pos} {e : Expr} {rest : List Stmt} {scope : Scope}
    {dV kV doc pm ct oc : Value} {an od : Option Addr} {osl : Array (Option Value)} {ar : Arg} {sp : Sp} {pl : Addr → Sem Bool} {B newId initId : String} {bmB : List Value} (bx : BasX B newId initId bmB) (T : SupC P K mg C c cc B newId initId bmB)
    (lk : K.lookup f = some ⟨oc, od, .func (PySem.W.fnX name qual params (.Expr (.Call (.Attribute (.Call (.Name "super" p0) [] [] p1) "__init__" p2) [e] [] p3) pos0 :: rest) scope [("__class__", cc)] dV kV doc pm an (.ref c) ct), osl⟩)
    (hcd : PySem.W.codeIn K (.ref c) qual = true) (S : NdefX.NScope N ps ["__class__"] scope) (hks : scope.names.lookup ("super" : Str) = some .globalImplicit)
    (hp : (params.posonlyargs ++ params.args).head? = some ar) (hN0 : N[0]? = some ar.arg) (hl0 : scope.names.lookup ar.arg = some .local) (len : ∀ vs H Q E, sp vs H Q E → vs.length = ps.length)
    (hbody : ∀ (A : Around) (outer : List Env) (s : Shared) (H : Hp) (vs : List V) (Q : VK) (E : XK), Room k (A.deeper (NdefX.envF ⟨name, qual, params, [], scope, [("__class__", cc)], c⟩ f s.heap.objs.size)) → sp vs H Q E →
      ∃ (a : Addr) (ta : TA) (t : TS), (NdefX.startF N vs [none])[0]? = some (some (.ref a)) ∧ H a = some (exo a C none) ∧ PA (NdefX.ncx CX0 P w K mg base N ⟨name, qual, params, [], scope, [("__class__", cc)], c⟩ f A outer s H E).nox [e] ta ∧
        PSs (NdefX.ncx CX0 P w K mg base N ⟨name, qual, params, [], scope, [("__class__", cc)], c⟩ f A outer s H E).nox rest t ∧
        ta (NdefX.startF N vs [none]) H fun us H1 => us.length ≤ 1000 ∧ H1 a = some (exo a C none) ∧ t { nx := fun _ H' => Q .non H', rt := Q } (NdefX.startF N vs [none]) H1)
    (hst : ∀ env : Env, starEach [e] env = [(false, eval e env)]) (hi : ∀ L : Addr, interactive (NdefX.envF ⟨name, qual, params, [], scope, [("__class__", cc)], c⟩ f L) = false)
    (hsw : ∀ L : Addr, swapsWith (.Call (.Attribute (.Call (.Name "super" p0) [] [] p1) "__init__" p2) [e] [] p3) none pos0.line (NdefX.envF ⟨name, qual, params, [], scope, [("__class__", cc)], c⟩ f L) = pure false)
    (he : ∀ L : Addr, eval (.Call (.Attribute (.Call (.Name "super" p0) [] [] p1) "__init__" p2) [e] [] p3) (NdefX.envF ⟨name, qual, params, [], scope, [("__class__", cc)], c⟩ f L) = (do
      let ov ← attributeBase (.Call (.Name "super" p0) [] [] p1) "__init__" (NdefX.envF ⟨name, qual, params, [], scope, [("__class__", cc)], c⟩ f L) (eval (.Call (.Name "super" p0) [] [] p1) (NdefX.envF ⟨name, qual, params, [], scope, [("__class__", cc)], c⟩ f L))
      standAt p2.atName
      let (ff, first) ← holding [ov] (getMethod ov "__init__" (pl L))
      callWith p3 ff first (backTo p3 (starEach [e] (NdefX.envF ⟨name, qual, params, [], scope, [("__class__", cc)], c⟩ f L))) [])) :
    FnOk P w K mg base CX0 (k + 1) f (PySem.W.fnX name qual params (.Expr (.Call (.Attribute (.Call (.Name "super" p0) [] [] p1) "__init__" p2) [e] [] p3) pos0 :: rest) scope [("__class__", cc)] dV kV doc pm an (.ref c) ct) ps sp := by
  refine ⟨len, fun A outer s H args us vs Q E hr e0 hb r hsp => ?_⟩
  have hl := len _ _ _ _ hsp
  have bk : ∀ b o, base.get? b = some o → s.heap.get? b = some o := fun b o e => (e0.bs b o e).1
  have KX : K.In s.heap := e0.mod.kin.keeps bk
  have lim : s.heap.NoLimit := e0.mod.nolimit.keeps bk
  obtain ⟨cl0, cld0, csl0, hcell⟩ := T.cell
  have CA : NdefX.CellsAt [(("__class__" : Str), cc)] ["__class__"] [none] s.heap H := by
    have bc := e0.mod.kin cc _ hcell
    have z := e0.bs cc _ bc
    have only : ∀ y c', ([(("__class__" : Str), cc)] : List (Str × Addr)).lookup y = some c' → y = "__class__" ∧ c' = cc := fun y c' h => by
      have m := PySem.mem_of_lookup h
      rcases List.mem_cons.mp m with q | q
      · injection q with q1 q2
        exact ⟨q1, q2⟩
      · cases q
    refine ⟨rfl, fun y c' h => ?_, fun x y c' h1 h2 => (only x c' h1).1.trans (only y c' h2).1.symm, fun i y h => ?_⟩
    · obtain ⟨_, rfl⟩ := only y c' h
      exact ⟨z.2, _, _, z.1, rfl⟩
    · cases i with
      | zero =>
        have e : "__class__" = y := Option.some.inj h
        subst e
        exact ⟨cc, by simp [List.lookup], fun v hv => by cases hv⟩
      | succ i => cases h
  obtain ⟨a, ta, t, h0, hHa, hPA, hPS, ht⟩ := hbody A outer s H vs Q E (hr.deeper _) hsp
  refine ks_codeAny_call_defAt (binds := ps.zip us) hr.depth (KX _ _ lk) rfl lim (PySem.W.codeRec_of KX hcd) rfl hb S.nocell (fun ⟨n, _⟩ hy => S.par n (List.of_mem_zip hy).1) (fun h₁ hns kp => ?_) S.co S.gen S.kind
  have I : Inv (NdefX.ncx CX0 P w K mg base N ⟨name, qual, params, [], scope, [("__class__", cc)], c⟩ f A outer s H E).nox [] (NdefX.startF N vs [none]) H { s with heap := h₁, toks := s.toks + (ps.zip us).length } :=
    (NdefX.inv_startN (F := ⟨name, qual, params, [], scope, [("__class__", cc)], c⟩) S hr.hd e0 hl r CA hns kp).wish _
  refine ks_wpAt_execs_cons (ks_wpAt_mono (sup_walk (X := (NdefX.ncx CX0 P w K mg base N ⟨name, qual, params, [], scope, [("__class__", cc)], c⟩ f A outer s H E).nox) (R := fun H1 => t { nx := fun _ H' => Q .non H', rt := Q } (NdefX.startF N vs [none]) H1)
    bx T I lk hp rfl rfl rfl hks (S.frk _ (by simp)) hN0 hl0 h0 hHa hPA ht (hst _) (hi _) (hsw _) (he _)) (fun fl s' z => ?_) fun _ _ z => z.elim)
  obtain ⟨rfl, H1, J, hR⟩ := z
  refine wpAt_of_wpAny (wpAny_mono (hPS.run [] s' _ H1 _ J hR) (fun fl s2 z => ?_) fun _ _ z => z.elim)
  have fin : ∀ {σ' : L2.St} {H' : Hp} {v : V} {u : Value}, Inv (NdefX.ncx CX0 P w K mg base N ⟨name, qual, params, [], scope, [("__class__", cc)], c⟩ f A outer s H E).nox [] σ' H' s2 → RelV v u → Q v H' → CE outer P w H s Q u s2 :=
    fun {σ' H' v u} J rv q => ⟨v, H', J.os, J.bare, J.base, J.hok, rv, q⟩
  cases fl with
  | ret u =>
    obtain ⟨v, σ', H', J, rv, q⟩ := z
    exact fin J rv q
  | next =>
    obtain ⟨σ', H', J, q⟩ := z
    exact fin (v := V.non) (u := Value.none) J rfl q
  | brk =>
    obtain ⟨_, _, _, q⟩ := z
    exact False.elim q
  | cont =>
    obtain ⟨_, _, _, q⟩ := z
    exact False.elim q
end Hs
namespace Hs
open PySem PySem.Spec PyProof.Rows L2 Evl
/-- C(), C's own __init__ keeping sp -/
theorem pmk_oex0 {X : Cx} {CX : CXT} {x : Str} {C fI : Addr} {k : Nat} {fd : FuncData} {ps : List Str} {sp : Sp} {ds : List Value} {dvs : List V} {p pos : Pos} {B newId initId : String} {bmB : List Value} (bx : BasX B newId initId bmB) (T : OexG X.K C newId bmB) (iC : PySem.W.findIn X.K (.ref C) "__init__" = some (some (.ref fI))) (tI : PySem.W.typeIn X.K (.ref fI) = some (.type "function"))
    (F1 : FnOk X.prog X.w X.K X.mg X.base CX k fI fd ps sp) (hr : Room (k + 1) X.A) (hb : Binds X.K fd ps ds) (hd : Vals dvs ds) (hx : Passes CX X (fun _ _ _ => False)) (hg : Gl X x) (hm : X.mg x = some (.ref C))
    (hdb : (x == ("__debug__" : Str)) = false := by decide) : PMk X (.Call (.Name x p) [] [] pos) (tMkO C sp dvs tNil) := by
  intro pins s σ H Q I h
  obtain ⟨nm, q, N, bs, bm, sn, sub, ab, col, dd, k0, k1, k2, k3, k5, hC, hbm⟩ := T.cls
  refine wpAny_Call_Name_kw (ld_glob I hg hm ?_ hdb)
  refine PySem.W.callWith_K0 I.kIn T.kC ?_
  show wpAny _ _ (call (.ref C) []) _ _ _
  obtain ⟨hp, g, dr, tk, os⟩ := s
  have hsz : hp.objs.size ≤ hp.objs.size + 1 := Nat.le_succ _
  have hn : H (hp.objs.size + 1) = none := I.hok.fresh hsz
  have hq := h.2 (hp.objs.size + 1) hn
  have kk : ∀ b o, hp.get? b = some o → ((hp.push (PySem.W.kdv_tup [])).push (PySem.HandSPX.excO C hp.objs.size)).get? b = some o := fun b o e => Heap.get?_push_of_some _ (Heap.get?_push_of_some _ e)
  have hget : ((hp.push (PySem.W.kdv_tup [])).push (PySem.HandSPX.excO C hp.objs.size)).get? (hp.objs.size + 1) = some (PySem.HandSPX.excO C hp.objs.size) := by heap_get
  have I2 : Inv X pins σ (upd H (hp.objs.size + 1) (exo (hp.objs.size + 1) C none)) ⟨(hp.push (PySem.W.kdv_tup [])).push (PySem.HandSPX.excO C hp.objs.size), g, dr, tk, os⟩ :=
    I.laid (t' := tk) (a := hp.objs.size + 1) (o := exo (hp.objs.size + 1) C none) (h' := (hp.push (PySem.W.kdv_tup [])).push (PySem.HandSPX.excO C hp.objs.size)) kk hsz (exo_ok hget)
  have r2 : Vals (V.ref (hp.objs.size + 1) :: ([] ++ dvs)) ([Value.ref (hp.objs.size + 1)] ++ ds) := .cons rfl hd
  have hl : (Value.ref (hp.objs.size + 1) :: [] ++ ds).length = ps.length := by
    have e := r2.length
    rw [F1.len _ _ _ _ hq] at e
    exact e.symm
  refine wpAny_call (PySem.HandSPX.call_own bx.eb (fun Y => PySem.W.excTail_contains Y bm hbm) (I.kIn _ _ hC) (PySem.W.looks_findIn I.kIn iC) (fun self => PySem.W.bind_fn I.kIn self tI) (Nat.zero_le _)
    (codeAny_mono (F1.run _ X.stack _ _ ⟨[Value.ref (hp.objs.size + 1)], []⟩ ([Value.ref (hp.objs.size + 1)] ++ ds) _ _ (fun _ _ _ => False) (hr.make C [] []) (I2.env0.make C [] []) (hb _ [Value.ref (hp.objs.size + 1)] I2.kIn hl) r2 hq) fun r s' hq' => ?_))
  cases r with
  | error er => exact hx pins σ _ _ er s' I2 hq'
  | ok fl =>
    cases fl with
    | ret u =>
      obtain ⟨v, H2, os2, bare2, un2, hok2, rv, ev, d, fs, ea, ed, hd1, q2⟩ := hq'
      subst ev
      obtain ⟨h2, g2, d2, t2, os'⟩ := s'
      exact ⟨rv, mk_end (raises_own T.exC T.tyC) I hsz kk un2 hok2 os2 bare2 ea ed hd1 q2⟩
    | next => exact False.elim hq'
    | brk => exact False.elim hq'
    | cont => exact False.elim hq'
/-- __init__ of an error with its word alone -/
def spErr (C : Addr) (wd : Str) : Sp := fun vs H Q _ => ∃ (a : Addr) (y : V), vs = [.ref a, y] ∧ H a = some (exo a C none) ∧ ∀ dx, H dx = none → dx ≠ a → Q .non (upd (upd H dx (exd dx [("word", .str wd)])) a (exo a C (some dx)))
/-- raise C(): the word in the error's own dict -/
theorem mk_err {C : Addr} {wd : Str} {y : V} {σ : L2.St} {H : Hp} {Q : XK} (h : ∀ d H', Ex H H' → H d = none → H' d = some (.xd [("word", .str wd)]) → Q (.ref C) (some d) H') : tMkO C (spErr C wd) [y] tNil σ H Q := by
  refine ⟨Nat.zero_le _, fun a na => ⟨a, y, rfl, upd_same, fun dx nd ne => ⟨rfl, dx, [("word", .str wd)], upd_same, ?_, ?_, ?_⟩⟩⟩
  · rw [upd_ne ne, upd_same]
  · rw [upd_ne ne] at nd
    exact nd
  · have nd' : H dx = none := by
      rw [upd_ne ne] at nd
      exact nd
    refine h dx _ (fun b o e => ?_) nd' upd_same
    have nb : b ≠ dx := ne_of_none e nd'
    have na' : b ≠ a := ne_of_none e na
    rw [upd_ne nb, del_ne na', upd_ne na', upd_ne nb, upd_ne na']
    exact e
end Hs
namespace Hs
open PySem PySem.Spec PyProof.Rows L2 Evl
/-- an own error class x at C with the word wd alone, as it stands -/
structure ErrF (P : Program) (w : World) (K : PySem.W.Frag) (mg : Str → Option Value) (base : Heap) (k : Nat) (x : Str) (C : Addr) (wd : Str) : Prop where
  ox : ∃ (B newId initId : String) (bmB : List Value), BasX B newId initId bmB ∧ OexG K C newId bmB
  gx : mg x = some (.ref C)
  ini : ∃ (fI : Addr) (fd : FuncData) (ps : List Str) (y : V) (d : Value), PySem.W.findIn K (.ref C) "__init__" = some (some (.ref fI)) ∧ PySem.W.typeIn K (.ref fI) = some (.type "function") ∧ FnOk P w K mg base CX0 k fI fd ps (spErr C wd) ∧ RelV y d ∧ Binds K fd ps [d]
theorem pmk_err {X : Cx} {k j : Nat} {x : Str} {C : Addr} {wd : Str} {p pos : Pos} (Er : ErrF X.prog X.w X.K X.mg X.base k x C wd) (hr : Room j X.A) (hk : k + 1 ≤ j) (hg : Gl X x) (hdb : (x == ("__debug__" : Str)) = false := by decide) :
    PMk X (.Call (.Name x p) [] [] pos) (fun _ H Q => ∀ d H', Ex H H' → H d = none → H' d = some (.xd [("word", .str wd)]) → Q (.ref C) (some d) H') := by
  obtain ⟨fI, fd, ps, y, d, h1, h2, h3, h4, h5⟩ := Er.ini
  obtain ⟨B, newId, initId, bmB, bx, ox⟩ := Er.ox
  intro pins s σ H Q I h
  exact pmk_oex0 bx ox h1 h2 h3 (hr.mono hk) h5 (.cons h4 .nil) (fun _ _ _ _ _ _ _ z => z.elim) hg Er.gx hdb pins s σ H Q I (mk_err h)
/-- the def st of a class's body, closed over __class__ at cc, its code object at c -/
def InitAt (K : PySem.W.Frag) (qual : Str) (st : Stmt) (f c cc : Addr) (dvs : List V) (fd : FuncData) : Prop :=
  ∃ (oc : Value) (od : Option Addr) (dV kV doc pm : Value) (an : Option Addr) (ct : Value) (osl : Array (Option Value)), fd = PySem.W.fnX "__init__" qual (defArgs st) (defBody st) (defScope st) [("__class__", cc)] dV kV doc pm an (.ref c) ct ∧
    K.lookup f = some ⟨oc, od, .func fd, osl⟩ ∧ PySem.W.codeIn K (.ref c) qual = true ∧ DflV K dV dvs
/-- __init__(self, why=..): super().__init__(why); self.word = '..' -/
theorem err_ok {P : Program} {w : World} {K : PySem.W.Frag} {mg : Str → Option Value} {base : Heap} {C f c cc : Addr} {fd : FuncData} {qual wd : Str} {st : Stmt} {y : V} {p0 p1 p2 p3 p4 pos0 p5 p6 p7 p8 : Pos} {kd : Nat} {ar : Arg} {B newId initId : String} {bmB : List Value} (bx : BasX B newId initId bmB) (T : SupC P K mg C c cc B newId initId bmB) (I0 : InitAt K qual st f c cc [y] fd)
    (hno : PySem.W.findIn K (.ref C) "word" = some none)
    (hbd : defBody st = [.Expr (.Call (.Attribute (.Call (.Name "super" p0) [] [] p1) "__init__" p2) [.Name "why" p4] [] p3) pos0, .Assign [.Attribute (.Name "self" p5) "word" p6] (.Constant (.str wd) kd p7) p8])
    (S : NdefX.NScope ["self", "why", "__class__"] ["self", "why"] ["__class__"] (defScope st)) (hks : (defScope st).names.lookup ("super" : Str) = some .globalImplicit)
    (hp : ((defArgs st).posonlyargs ++ (defArgs st).args).head? = some ar) (har : ar.arg = "self") (hl0 : (defScope st).names.lookup ("self" : Str) = some .local) (hl1 : (defScope st).names.lookup ("why" : Str) = some .local) {pl : Addr → Sem Bool}
    (hi : ∀ L : Addr, interactive (NdefX.envF ⟨"__init__", qual, defArgs st, [], defScope st, [("__class__", cc)], c⟩ f L) = false)
    (hsw : ∀ L : Addr, swapsWith (.Call (.Attribute (.Call (.Name "super" p0) [] [] p1) "__init__" p2) [.Name "why" p4] [] p3) none pos0.line (NdefX.envF ⟨"__init__", qual, defArgs st, [], defScope st, [("__class__", cc)], c⟩ f L) = pure false)
    (hs2 : ∀ L : Addr, swapsWith (.Constant (.str wd) kd p7) (some (.Attribute (.Name "self" p5) "word" p6)) p8.line (NdefX.envF ⟨"__init__", qual, defArgs st, [], defScope st, [("__class__", cc)], c⟩ f L) = pure false)
    (he : ∀ L : Addr, eval (.Call (.Attribute (.Call (.Name "super" p0) [] [] p1) "__init__" p2) [.Name "why" p4] [] p3) (NdefX.envF ⟨"__init__", qual, defArgs st, [], defScope st, [("__class__", cc)], c⟩ f L) = (do
      let ov ← attributeBase (.Call (.Name "super" p0) [] [] p1) "__init__" (NdefX.envF ⟨"__init__", qual, defArgs st, [], defScope st, [("__class__", cc)], c⟩ f L) (eval (.Call (.Name "super" p0) [] [] p1) (NdefX.envF ⟨"__init__", qual, defArgs st, [], defScope st, [("__class__", cc)], c⟩ f L))
      standAt p2.atName
      let (ff, first) ← holding [ov] (getMethod ov "__init__" (pl L))
      callWith p3 ff first (backTo p3 (starEach [.Name "why" p4] (NdefX.envF ⟨"__init__", qual, defArgs st, [], defScope st, [("__class__", cc)], c⟩ f L))) []))
    (hst : ∀ env : Env, starEach [.Name "why" p4] env = [(false, eval (.Name "why" p4) env)]) :
    FnOk P w K mg base CX0 1 f fd ["self", "why"] (spErr C wd) := by
  obtain ⟨oc, od, dV, kV, doc, pm, an, ct, osl, rfl, lk, hcd, _⟩ := I0
  rw [hbd] at lk ⊢
  refine sup_ok (k := 0) (N := ["self", "why", "__class__"]) bx T lk hcd S hks hp (by rw [har] <;> rfl) (by rw [har]; exact hl0) (fun vs H Q E h => ?_) (fun A outer s H vs Q E hr h => ?_) hst hi hsw he
  · obtain ⟨a, y, rfl, _⟩ := h
    rfl
  · obtain ⟨a, y, rfl, ha, k⟩ := h
    refine ⟨a, tCons (tVar 1) tNil, tPut K newId bmB "word" (tVar 0) (tC (.str wd)), rfl, ha, pa_cons (pv 1 rfl (.inl hl1)) pa_nil (hst _), pss_one (ps_put bx (pv 0 rfl (.inl hl0)) pe_str (hs2 _)), ?_⟩
    exact ⟨y, rfl, Nat.succ_le_succ (Nat.zero_le _), ha, .ref a, rfl, a, C, rfl, T.ox, hno, .inl ⟨ha, fun dx n ne => k dx n ne⟩⟩
end Hs
namespace Hs
open PySem PySem.Spec PyProof.Rows L2 Evl
/-! ### the head: what the run of the top leaves -/
def oclsB (K : PySem.W.Frag) (C : Addr) (newId : String) (bmB : List Value) : Bool := match K.lookup C with
  | some ⟨.type "type", _, .cls cd, sl⟩ => (match cd.mro, sl.toList with
    | .ref C' :: bm, [_, _, _, _, some (.builtin n), _] => C' == C && n == newId && !cd.hasDel && cd.hasDict && PySem.W.excTail bmB bm
    | _, _ => false)
  | _ => false
theorem ocls_of {K : PySem.W.Frag} {C : Addr} {newId : String} {bmB : List Value} (q : oclsB K C newId bmB = true) : ∃ nm q N bs bm sn sub ab col dd k0 k1 k2 k3 k5, K.lookup C = some (excClassObj nm q C N bs bm true sn sub ab col dd k0 k1 k2 k3 k5 newId) ∧ PySem.W.excTail bmB bm = true := by
  unfold oclsB at q
  split at q
  · rename_i dd cd sl ho
    split at q
    · rename_i C' bm k0 k1 k2 k3 n k5 hm hs
      simp only [Bool.and_eq_true, beq_iff_eq, Bool.not_eq_true'] at q
      obtain ⟨⟨⟨⟨rfl, rfl⟩, hdel⟩, hdc⟩, ht⟩ := q
      obtain ⟨nm, bs, mro, ns, qn, hd, sn, sub, ab, col, del⟩ := cd
      dsimp only at hm hdel hdc
      subst hm hdel hdc
      have hsl : sl = #[k0, k1, k2, k3, some (.builtin n), k5] := by
        obtain ⟨l⟩ := sl
        simp only at hs
        rw [hs]
      subst hsl
      exact ⟨nm, qn, ns, bs, bm, sn, sub, ab, col, dd, k0, k1, k2, k3, k5, ho, ht⟩
    · cases q
  · cases q
def oexB (K : PySem.W.Frag) (C : Addr) (newId : String) (bmB : List Value) : Bool := oclsB K C newId bmB && (He.eqO (PySem.W.findIn K (.ref C) "__setattr__") (some (some (.builtin "object.__setattr__"))) && (decide (PySem.W.subIn K (.ref C) (.type "BaseException") = some true) && (decide (PySem.W.typeIn K (.ref C) = some (.type "type")) && PySem.W.keepIn K (.ref C))))
theorem oexB_ok {K : PySem.W.Frag} {C : Addr} {newId : String} {bmB : List Value} (h : oexB K C newId bmB = true) : OexG K C newId bmB := by
  obtain ⟨h1, h⟩ := He.ba h
  obtain ⟨h2, h⟩ := He.ba h
  obtain ⟨h3, h⟩ := He.ba h
  obtain ⟨h4, h5⟩ := He.ba h
  exact ⟨ocls_of h1, He.eqO_ok h2, of_decide_eq_true h3, of_decide_eq_true h4, h5⟩
/-- an own error: its class's name, the def of its __init__, its default, the file of its code -/
structure ErrD where
  cls : Str
  qual : Str
  st : Stmt
  why : Str
  file : Str
  bas : String
  nid : String
  iid : String
abbrev FnC : Type := Option (Str × Str × Arguments × FuncBody × Scope × Addr × List Str × Addr)
def iniA (K : PySem.W.Frag) (x : Str) : Addr := He.ma K (He.ga K x) "__init__"
def fnC (K : PySem.W.Frag) (x : Str) : FnC := match K.lookup (iniA K x) with
  | some ⟨_, _, .func fd, _⟩ => some (fd.name, fd.qualname, fd.params, fd.body, fd.scope, fd.globals, fd.closure.map (·.1), fd.builtins)
  | _ => none
def ErrD.val (d : ErrD) : FnC := some ("__init__", d.qual, defArgs d.st, .stmts (defBody d.st), defScope d.st, mainGlobals, ["__class__"], builtinsNs)
def fileB (K : PySem.W.Frag) (c : Addr) (file : Str) : Bool := match K.lookup c with
  | some ⟨_, _, .fields vs, _⟩ => (match (vs[2]? : Option Value) with
    | some (.str f _) => file == f
    | _ => false)
  | _ => false
def cellB (K : PySem.W.Frag) (cc C : Addr) : Bool := match K.lookup cc with
  | some ⟨_, _, .cell (some (.ref C')), _⟩ => decide (C' = C)
  | _ => false
def fileV (K : PySem.W.Frag) (file : Str) : Value → Bool
  | .ref c => fileB K c file
  | _ => false
def cloB (K : PySem.W.Frag) (C : Addr) : List (Str × Addr) → Bool
  | [(_, cc)] => cellB K cc C
  | _ => false
/-- the __init__ of d: its code object, its cell -/
def iniB (K : PySem.W.Frag) (d : ErrD) : Bool := match K.lookup (iniA K d.cls) with
  | some ⟨_, _, .func fd, _⟩ => PySem.W.codeIn K fd.code d.qual && (He.dflB K fd.defaults [.str d.why] && (fileV K d.file fd.code && cloB K (He.ga K d.cls) fd.closure))
  | _ => false
def errB (K : PySem.W.Frag) (d : ErrD) : Bool := oexB K (He.ga K d.cls) d.nid (tailOf d.bas) && (iniB K d && (decide (PySem.W.mroIn K (He.ga K d.cls) (.ref (He.ga K d.cls)) = some true) && (He.eqO (PySem.W.ks_superIn K (He.ga K d.cls) (He.ga K d.cls) "__init__") (some (some (.builtin d.iid))) &&
  (decide (PySem.W.subIn K (.ref (He.ga K d.cls)) (.type d.bas) = some true) && (He.eqO (PySem.W.nsIn K cStatics "thirdparty.any") (some none) && (He.eqO (PySem.W.findIn K (.ref (He.ga K d.cls)) "__init__") (some (some (.ref (iniA K d.cls)))) &&
  (decide (PySem.W.typeIn K (.ref (iniA K d.cls)) = some (.type "function")) && He.eqO (PySem.W.findIn K (.ref (He.ga K d.cls)) "word") (some none))))))))
theorem fileB_ok {K : PySem.W.Frag} {c : Addr} {file : Str} (h : fileB K c file = true) : ∃ (ccl : Value) (cdd : Option Addr) (vs : Array Value) (ccs : Array (Option Value)) (f : Str) (tf : Tok), K.lookup c = some ⟨ccl, cdd, .fields vs, ccs⟩ ∧ vs[2]? = some (.str f tf) ∧ (file == f) = true := by
  unfold fileB at h
  split at h
  · rename_i ccl cdd vs ccs hk
    split at h
    · rename_i f tf hv
      exact ⟨ccl, cdd, vs, ccs, f, tf, hk, hv, h⟩
    · cases h
  · cases h
theorem cellB_ok {K : PySem.W.Frag} {cc C : Addr} (h : cellB K cc C = true) : ∃ (cl : Value) (cld : Option Addr) (csl : Array (Option Value)), K.lookup cc = some ⟨cl, cld, .cell (some (.ref C)), csl⟩ := by
  unfold cellB at h
  split at h
  · rename_i cl cld C' csl hk
    have e : C' = C := of_decide_eq_true h
    subst e
    exact ⟨cl, cld, csl, hk⟩
  · cases h
theorem iniB_ok {K : PySem.W.Frag} {d : ErrD} (e : fnC K d.cls = d.val) (h : iniB K d = true) :
    ∃ (c cc : Addr) (fd : FuncData), InitAt K d.qual d.st (iniA K d.cls) c cc [.str d.why] fd ∧ (∃ (ccl : Value) (cdd : Option Addr) (vs : Array Value) (ccs : Array (Option Value)) (f : Str) (tf : Tok), K.lookup c = some ⟨ccl, cdd, .fields vs, ccs⟩ ∧ vs[2]? = some (.str f tf) ∧ (d.file == f) = true) ∧
      ∃ (cl : Value) (cld : Option Addr) (csl : Array (Option Value)), K.lookup cc = some ⟨cl, cld, .cell (some (.ref (He.ga K d.cls))), csl⟩ := by
  unfold fnC at e
  unfold iniB at h
  cases q : K.lookup (iniA K d.cls) with
  | none =>
    rw [q] at h
    cases h
  | some o =>
    obtain ⟨oc, od, dt, osl⟩ := o
    rw [q] at h e
    cases dt with
    | func fd =>
      obtain ⟨n1, n2, n3, n4, n5, n6, n7, n8, n9, n10, n11, n12, n13, n14, n15⟩ := fd
      have e2 : (some (n1, n2, n3, n4, n5, n6, n7.map (·.1), n15) : FnC) = (some (("__init__" : Str), d.qual, defArgs d.st, FuncBody.stmts (defBody d.st), defScope d.st, mainGlobals, [("__class__" : Str)], builtinsNs) : FnC) := e
      simp only [Option.some.injEq, Prod.mk.injEq] at e2
      obtain ⟨h1, h2, h3, h4, h5, h6, h7, h8⟩ := e2
      subst h1 h2 h3 h4 h5 h6 h8
      have h0 : (PySem.W.codeIn K n13 d.qual && (He.dflB K n8 [.str d.why] && (fileV K d.file n13 && cloB K (He.ga K d.cls) n7))) = true := h
      obtain ⟨k1, h0⟩ := He.ba h0
      obtain ⟨k2, h0⟩ := He.ba h0
      obtain ⟨k3, k4⟩ := He.ba h0
      obtain ⟨c, rfl⟩ := He.codeIn_ref k1
      clear e h
      cases n7 with
      | nil => cases h7
      | cons z r =>
        cases r with
        | cons z2 r2 =>
          injection h7 with _ h9
          cases h9
        | nil =>
          obtain ⟨y, cc⟩ := z
          have ey : y = "__class__" := by
            have z : [y] = [("__class__" : Str)] := h7
            injection z
          subst ey
          exact ⟨c, cc, _, ⟨oc, od, n8, n9, n10, n11, n12, n14, osl, rfl, q, k1, He.dflB_ok k2⟩, fileB_ok k3, cellB_ok k4⟩
    | _ => cases h
/-! ### the Hook -/
/-- what is looked at: the module's names, and the statics -/
structure Sel where
  names : List Str
  meths : List (Str × Str)
def refsG (g : Addr → Option Obj) (a : Addr) : List Addr := match g a with
  | some o => He.refsD o
  | none => []
def selA (n : Sel) (g : Addr → Option Obj) : List Addr :=
  let K0 := He.frT g [mainGlobals]
  let l1 := n.names.map (He.ga K0)
  let l2 := l1.flatMap (refsG g)
  let K1 := He.frT g (cStatics :: mainGlobals :: (l1 ++ l2))
  let l3 := n.meths.map fun p => He.ma K1 (He.ga K0 p.1) p.2
  cStatics :: mainGlobals :: (l1 ++ (l2 ++ (l3 ++ l3.flatMap (refsG g))))
def asY (n : Sel) (g : Addr → Option Obj) : List Addr := selA n g
structure SaysY (fa : List He.Fa) (fn : List He.DefD) (ts : List He.Tab) (tf : List He.Defn) (er : List ErrD) (ex : PySem.W.Frag → Bool) (w : World) (h : Heap) (K : PySem.W.Frag) : Prop where
  x : He.SaysX fa fn ts tf ex w h K
  er : ∀ d ∈ er, errB K d = true ∧ fnC K d.cls = d.val
abbrev AlY : Type := He.AlX × (Bool × List FnC)
def obsK (fa : List He.Fa) (fn : List He.DefD) (ts : List He.Tab) (tf : List He.Defn) (er : List ErrD) (ex : PySem.W.Frag → Bool) (g : Addr → Option Obj) (K : PySem.W.Frag) : AlY := ((He.obsT fa fn ts K, ex K && He.tabsB g tf K), er.all (errB K), er.map fun d => fnC K d.cls)
def obsY (n : Sel) (fa : List He.Fa) (fn : List He.DefD) (ts : List He.Tab) (tf : List He.Defn) (er : List ErrD) (ex : PySem.W.Frag → Bool) (g : Addr → Option Obj) : AlY := obsK fa fn ts tf er ex g (He.frT g (asY n g))
def valY (fn : List He.DefD) (ts : List He.Tab) (er : List ErrD) (w : World) : AlY := (He.valX fn ts w, true, er.map ErrD.val)
theorem saysY_of {n : Sel} {fa : List He.Fa} {fn : List He.DefD} {ts : List He.Tab} {tf : List He.Defn} {er : List ErrD} {ex : PySem.W.Frag → Bool} {w : World} {h : Heap} (e : obsY n fa fn ts tf er ex h.get? = valY fn ts er w) : SaysY fa fn ts tf er ex w h (He.frT h.get? (asY n h.get?)) := by
  have e1 : He.obsT fa fn ts (He.frT h.get? (asY n h.get?)) = He.valT fn ts w := congrArg (fun z : AlY => z.1.1) e
  have e2 : (ex (He.frT h.get? (asY n h.get?)) && He.tabsB h.get? tf (He.frT h.get? (asY n h.get?))) = true := congrArg (fun z : AlY => z.1.2) e
  have e3 : er.all (errB (He.frT h.get? (asY n h.get?))) = true := congrArg (fun z : AlY => z.2.1) e
  have e4 : er.map (fun d => fnC (He.frT h.get? (asY n h.get?)) d.cls) = er.map ErrD.val := congrArg (fun z : AlY => z.2.2) e
  generalize hK : He.frT h.get? (asY n h.get?) = K at e1 e2 e3 e4 ⊢
  obtain ⟨h1, h2⟩ := He.ba e2
  have key : ∀ p ∈ tf, PySem.W.codeHdIn K (He.cT K p).1 (He.cT K p).2 = true ∧ ∃ o, h.get? (He.cT K p).2 = some o ∧ He.emptyTab o = true := fun p hp => by
    obtain ⟨h3, h4⟩ := He.ba (List.all_eq_true.mp h2 p hp)
    refine ⟨h3, ?_⟩
    cases q : h.get? (He.cT K p).2 with
    | none =>
      rw [q] at h4
      cases h4
    | some o =>
      rw [q] at h4
      exact ⟨o, rfl, h4⟩
  refine ⟨⟨e1, h1, fun p hp => (key p hp).1, fun p hp => ?_, fun p hp => ?_⟩, fun d hd => ⟨List.all_eq_true.mp e3 d hd, List.map_inj_left.mp e4 d hd⟩⟩
  · obtain ⟨_, o, q, z⟩ := key p hp
    have y := He.frT_none (as := asY n h.get?) q z
    rw [hK] at y
    exact y
  · obtain ⟨_, o, q, z⟩ := key p hp
    rw [q, He.emptyTab_eq z]
def hookY (n : Sel) (fa : List He.Fa) (fn : List He.DefD) (ts : List He.Tab) (tf : List He.Defn) (er : List ErrD) (ex : PySem.W.Frag → Bool) : PySem.W.Hook where
  α := AlY
  obs := fun s => obsY n fa fn ts tf er ex s.heap.get?
  val := fun w => valY fn ts er w
  says := fun w h => ∃ K : PySem.W.Frag, K.In h ∧ SaysY fa fn ts tf er ex w h K
  of := fun _ _ e => ⟨_, He.frT_in, saysY_of e⟩
  keeps := fun _ _ _ ⟨K, hK, c⟩ k => ⟨K, PySem.W.Frag.In.keeps hK k, ⟨⟨c.x.t, c.x.more, c.x.hd, c.x.out, fun p hp => k _ _ (c.x.empty p hp)⟩, c.er⟩⟩
theorem obsY_eq {n : Sel} {fa : List He.Fa} {fn : List He.DefD} {ts : List He.Tab} {tf : List He.Defn} {er : List ErrD} {ex : PySem.W.Frag → Bool} {g : Addr → Option Obj} {s : Shared} (h : ∀ a, g a = s.heap.get? a) : obsY n fa fn ts tf er ex g = (hookY n fa fn ts tf er ex).obs s := by
  have e : g = s.heap.get? := funext h
  rw [e] <;> rfl
/-- a text that is looked up -/
def strB (r : Option (Option Value)) (z : Str) : Bool := match r with
  | some (some (.str y _)) => decide (y = z)
  | _ => false
theorem strB_ok {r : Option (Option Value)} {z : Str} (h : strB r z = true) : ∃ t, r = some (some (.str z t)) := by
  unfold strB at h
  split at h
  · rename_i y t
    exact ⟨t, by rw [of_decide_eq_true h]⟩
  · cases h
end Hs
namespace Hs
open PySem PySem.Spec PyProof.Rows L2 Evl
/-! ### the run of the top in two halves: each is a run of its own, of less memory -/
theorem map_two {α β γ δ : Type} {x : Option α} {f : α → β} {g : α → γ} {k : α → δ} {a : β} {b : γ} {c : δ} (h1 : x.map (fun s => (f s, g s)) = some (a, b)) (h2 : x.map k = some c) : x.map (fun s => (f s, g s, k s)) = some (a, b, c) := by
  cases x with
  | none => cases h1
  | some y =>
    have e1 : (f y, g y) = (a, b) := Option.some.inj h1
    have e2 : k y = c := Option.some.inj h2
    obtain ⟨e3, e4⟩ := Prod.mk.inj e1
    show some (f y, g y, k y) = some (a, b, c)
    rw [e2, e3, e4]
section
open PySem.W HandSHeadRun
def RunA (r : OpenRow) (q : Program) (M : Nat) (loose : List Str) (w : World) : Prop :=
  ∀ os : OsState, (endF (stepQ (denQ tabQ) r.prog w) M r.prog w os).map (fun s => (looksF r.prog (boot_heap w.params) s.abs, seenQ q loose (importedModules r.prog.main.body) (fun s => xlAt q [] s && recOk r.toRowW.records s) s.abs)) = some (true, openGood q loose)
def RunB (r : OpenRow) (H : Hook) (ob : SharedT → H.α) (M : Nat) (w : World) : Prop :=
  ∀ os : OsState, (endF (stepQ (denQ tabQ) r.prog w) M r.prog w os).map ob = some (H.val w)
theorem run_ab {r : OpenRow} {q : Program} {H : Hook} {ob : SharedT → H.α} {M : Nat} {loose : List Str} {w : World} (a : RunA r q M loose w) (b : RunB r H ob M w) : RunEq r q H ob M loose w := fun os => map_two (a os) (b os)
end
end Hs
namespace Hs
open PySem PySem.Spec PyProof.Rows L2 Evl
/-! ### the facts of the top -/
def dsLean : He.DefD := ⟨("lean", none), "lean", "lean", defArgs (top 23), defBody (top 23), defScope (top 23), [], []⟩
def dsSide : He.DefD := ⟨("side", none), "side", "side", defArgs (top 24), defBody (top 24), defScope (top 24), [], []⟩
def dsBox : He.DefD := ⟨("box_around", none), "box_around", "box_around", defArgs (top 25), defBody (top 25), defScope (top 25), [], []⟩
def dsBlm : He.DefD := ⟨("blocks_meet", none), "blocks_meet", "blocks_meet", defArgs (top 26), defBody (top 26), defScope (top 26), [], []⟩
def dsBes : He.DefD := ⟨("beside", none), "beside", "beside", defArgs (top 27), defBody (top 27), defScope (top 27), [], []⟩
def dsPm : He.DefD := ⟨("pieces_meet", none), "pieces_meet", "pieces_meet", defArgs (top 28), defBody (top 28), defScope (top 28), [], []⟩
def dsBm : He.DefD := ⟨("block_meets", none), "block_meets", "block_meets", defArgs (top 29), defBody (top 29), defScope (top 29), [], []⟩
def dsCheck : He.DefD := ⟨("check_sift", none), "check_sift", "check_sift", defArgs (top 34), defBody (top 34), defScope (top 34), [], []⟩
def dsSifted : He.DefD := ⟨("sifted", none), "sifted", "sifted", defArgs (top 35), defBody (top 35), defScope (top 35), [], []⟩
def dsBoth : He.DefD := ⟨("both_sifts", none), "both_sifts", "both_sifts", defArgs (top 37), defBody (top 37), defScope (top 37), [], []⟩
def dsSummed : He.DefD := ⟨("summed", none), "summed", "summed", defArgs (top 36), defBody (top 36), defScope (top 36), [], []⟩
def dsFigs : He.DefD := ⟨("figures_of", none), "figures_of", "figures_of", defArgs (top 40), defBody (top 40), defScope (top 40), [], []⟩
def dsLetBy : He.DefD := ⟨("let_by", none), "let_by", "let_by", defArgs (top 41), defBody (top 41), defScope (top 41), [], []⟩
def dsLetAll : He.DefD := ⟨("let_by_all", none), "let_by_all", "let_by_all", defArgs (top 42), defBody (top 42), defScope (top 42), [], []⟩
def dsBrought : He.DefD := ⟨("brought", none), "brought", "brought", defArgs (top 43), defBody (top 43), defScope (top 43), [], []⟩
def dsChoice : He.DefD := ⟨("choice_lights", none), "choice_lights", "choice_lights", defArgs (top 44), defBody (top 44), defScope (top 44), [], []⟩
def dsPicked : He.DefD := ⟨("picked_light", none), "picked_light", "picked_light", defArgs (top 45), defBody (top 45), defScope (top 45), [], []⟩
def dsPlace : He.DefD := ⟨("check_place", none), "check_place", "check_place", defArgs (top 47), defBody (top 47), defScope (top 47), [], []⟩
def dsLightC : He.DefD := ⟨("check_light", none), "check_light", "check_light", defArgs (top 48), defBody (top 48), defScope (top 48), [], []⟩
def dsNum : He.DefD := ⟨("row_number", none), "row_number", "row_number", defArgs (top 53), defBody (top 53), defScope (top 53), [], []⟩
def dsCounts : He.DefD := ⟨("counts_of", none), "counts_of", "counts_of", defArgs (top 55), defBody (top 55), defScope (top 55), [], []⟩
def dsChecked : He.DefD := ⟨("checked_setting", none), "checked_setting", "checked_setting", defArgs (top 57), defBody (top 57), defScope (top 57), [], []⟩
def dsPicks : He.DefD := ⟨("picks_of", none), "picks_of", "picks_of", defArgs (top 58), defBody (top 58), defScope (top 58), [], []⟩
def dsBare : He.DefD := ⟨("bare_floor", none), "bare_floor", "bare_floor", defArgs (top 67), defBody (top 67), defScope (top 67), [], []⟩
def dsFirst : He.DefD := ⟨("first_state", none), "first_state", "first_state", defArgs (top 77), defBody (top 77), defScope (top 77), [], []⟩
def dsWith : He.DefD := ⟨("with_thing", none), "with_thing", "with_thing", defArgs (top 68), defBody (top 68), defScope (top 68), [], []⟩
def dsRoom : He.DefD := ⟨("check_room", none), "check_room", "check_room", defArgs (top 78), defBody (top 78), defScope (top 78), [], []⟩
def dsPut : He.DefD := ⟨("put", none), "put", "put", defArgs (top 79), defBody (top 79), defScope (top 79), [], []⟩
def dsThing : He.DefD := ⟨("thing_of", none), "thing_of", "thing_of", defArgs (top 70), defBody (top 70), defScope (top 70), [], []⟩
def dsWithout : He.DefD := ⟨("without_thing", none), "without_thing", "without_thing", defArgs (top 69), defBody (top 69), defScope (top 69), [], []⟩
def dsDoLamp : He.DefD := ⟨("do_lamp", none), "do_lamp", "do_lamp", defArgs (top 80), defBody (top 80), defScope (top 80), [], []⟩
def dsDoPost : He.DefD := ⟨("do_post", none), "do_post", "do_post", defArgs (top 82), defBody (top 82), defScope (top 82), [], []⟩
def dsDoPane : He.DefD := ⟨("do_pane", none), "do_pane", "do_pane", defArgs (top 83), defBody (top 83), defScope (top 83), [], []⟩
def dsSwitch : He.DefD := ⟨("do_switch", none), "do_switch", "do_switch", defArgs (top 85), defBody (top 85), defScope (top 85), [], []⟩
def dsDrop : He.DefD := ⟨("do_drop", none), "do_drop", "do_drop", defArgs (top 86), defBody (top 86), defScope (top 86), [], []⟩
def dsApplied : He.DefD := ⟨("applied", none), "applied", "applied", defArgs (top 93), defBody (top 93), defScope (top 93), [], []⟩
def dsSame : He.DefD := ⟨("_law_same", none), "_law_same", "_law_same", defArgs (top 108), defBody (top 108), defScope (top 108), [], []⟩
def dsPull : He.DefD := ⟨("_law_pull", none), "_law_pull", "_law_pull", defArgs (top 105), defBody (top 105), defScope (top 105), [], []⟩
def dsBag : He.DefD := ⟨("_law_bag", none), "_law_bag", "_law_bag", defArgs (top 104), defBody (top 104), defScope (top 104), [], []⟩
def dsCorn : He.DefD := ⟨("_law_corners", none), "_law_corners", "_law_corners", defArgs (top 109), defBody (top 109), defScope (top 109), [], []⟩
def dsSum : He.DefD := ⟨("_law_sum", none), "_law_sum", "_law_sum", defArgs (top 110), defBody (top 110), defScope (top 110), [], []⟩
def dsGrid : He.DefD := ⟨("_law_grid", none), "_law_grid", "_law_grid", defArgs (top 111), defBody (top 111), defScope (top 111), [], []⟩
def dsSpot : He.DefD := ⟨("_law_spot", none), "_law_spot", "_law_spot", defArgs (top 112), defBody (top 112), defScope (top 112), [], []⟩
def dsOne : He.DefD := ⟨("_law_one", none), "_law_one", "_law_one", defArgs (top 106), defBody (top 106), defScope (top 106), [], []⟩
def dsMixed : He.DefD := ⟨("_law_mixed", none), "_law_mixed", "_law_mixed", defArgs (top 107), defBody (top 107), defScope (top 107), [], []⟩
def dsOther : He.DefD := ⟨("_law_other_spot", none), "_law_other_spot", "_law_other_spot", defArgs (top 113), defBody (top 113), defScope (top 113), [], []⟩
def dsTint : He.DefD := ⟨("_law_tint", none), "_law_tint", "_law_tint", defArgs (top 114), defBody (top 114), defScope (top 114), [], []⟩
def dsBlock : He.DefD := ⟨("_law_block", none), "_law_block", "_law_block", defArgs (top 115), defBody (top 115), defScope (top 115), [], []⟩
def dsLetters : He.DefD := ⟨("_law_letters", none), "_law_letters", "_law_letters", defArgs (top 116), defBody (top 116), defScope (top 116), [], []⟩
def dsThingD : He.DefD := ⟨("_law_thing_deed", none), "_law_thing_deed", "_law_thing_deed", defArgs (top 117), defBody (top 117), defScope (top 117), [], []⟩
def dsNewM : He.DefD := ⟨("_law_new", none), "_law_new", "_law_new", defArgs (top 118), defBody (top 118), defScope (top 118), [], []⟩
def dsCopyM : He.DefD := ⟨("_law_copy", none), "_law_copy", "_law_copy", defArgs (top 119), defBody (top 119), defScope (top 119), [], []⟩
def dsCountsM : He.DefD := ⟨("_law_counts", none), "_law_counts", "_law_counts", defArgs (top 120), defBody (top 120), defScope (top 120), [], []⟩
def dsPutM : He.DefD := ⟨("_law_put", none), "_law_put", "_law_put", defArgs (top 122), defBody (top 122), defScope (top 122), [], []⟩
def dsAfter : He.DefD := ⟨("_law_after_put", none), "_law_after_put", "_law_after_put", defArgs (top 124), defBody (top 124), defScope (top 124), [], []⟩
def dsSwitchedM : He.DefD := ⟨("_law_switched", none), "_law_switched", "_law_switched", defArgs (top 126), defBody (top 126), defScope (top 126), [], []⟩
def dsAfterTurn : He.DefD := ⟨("_law_after_turn", none), "_law_after_turn", "_law_after_turn", defArgs (top 127), defBody (top 127), defScope (top 127), [], []⟩
def dsAfterA : He.DefD := ⟨("_law_after", none), "_law_after", "_law_after", defArgs (top 129), defBody (top 129), defScope (top 129), [], []⟩
def dsLaid : He.DefD := ⟨("_law_laid", none), "_law_laid", "_law_laid", defArgs (top 130), defBody (top 130), defScope (top 130), [], []⟩
def dsFloorD : He.DefD := ⟨("_law_floor_deeds", none), "_law_floor_deeds", "_law_floor_deeds", defArgs (top 131), defBody (top 131), defScope (top 131), [], []⟩
def dsChosen : He.DefD := ⟨("_law_chosen", none), "_law_chosen", "_law_chosen", defArgs (top 132), defBody (top 132), defScope (top 132), [], []⟩
def dsBurn : He.DefD := ⟨("_law_burning", none), "_law_burning", "_law_burning", defArgs (top 133), defBody (top 133), defScope (top 133), [], []⟩
def dsSpots : He.DefD := ⟨("_law_spots", none), "_law_spots", "_law_spots", defArgs (top 134), defBody (top 134), defScope (top 134), [], []⟩
def dsTwice : He.DefD := ⟨("_law_twice", none), "_law_twice", "_law_twice", defArgs (top 135), defBody (top 135), defScope (top 135), [], []⟩
def dsLaw : He.DefD := ⟨("law", none), "law", "law", defArgs (top 136), defBody (top 136), defScope (top 136), [], []⟩
def dsInit : He.DefD := ⟨("House", some "__init__"), "__init__", "House.__init__", defArgs (inClass (Hs.top 102) 0), defBody (inClass (Hs.top 102) 0), defScope (inClass (Hs.top 102) 0), [], []⟩
def dsDo : He.DefD := ⟨("House", some "do"), "do", "House.do", defArgs (inClass (Hs.top 102) 1), defBody (inClass (Hs.top 102) 1), defScope (inClass (Hs.top 102) 1), [], []⟩
def dsLightM : He.DefD := ⟨("House", some "light"), "light", "House.light", defArgs (inClass (Hs.top 102) 28), defBody (inClass (Hs.top 102) 28), defScope (inClass (Hs.top 102) 28), [], [("setting", .non)]⟩
def dsSwitchM : He.DefD := ⟨("House", some "switch"), "switch", "House.switch", defArgs (inClass (Hs.top 102) 7), defBody (inClass (Hs.top 102) 7), defScope (inClass (Hs.top 102) 7), [], []⟩
def dsDropM : He.DefD := ⟨("House", some "drop"), "drop", "House.drop", defArgs (inClass (Hs.top 102) 8), defBody (inClass (Hs.top 102) 8), defScope (inClass (Hs.top 102) 8), [], []⟩
def dsTwin : He.DefD := ⟨("House", some "twin"), "twin", "House.twin", defArgs (inClass (Hs.top 102) 33), defBody (inClass (Hs.top 102) 33), defScope (inClass (Hs.top 102) 33), [], []⟩
def fn : List He.DefD := [dsLean, dsSide, dsBox, dsBlm, dsBes, dsPm, dsBm, dsCheck, dsSifted, dsBoth, dsSummed, dsFigs, dsLetBy, dsLetAll, dsBrought, dsChoice, dsPicked, dsPlace, dsLightC, dsNum, dsCounts, dsChecked, dsPicks, dsBare, dsFirst, dsWith, dsRoom, dsPut, dsThing, dsWithout, dsDoLamp, dsDoPost, dsDoPane, dsSwitch, dsDrop, dsApplied, dsSame, dsPull, dsBag, dsCorn, dsSum, dsGrid, dsSpot, dsOne, dsMixed, dsOther, dsTint, dsBlock, dsLetters, dsThingD, dsNewM, dsCopyM, dsCountsM, dsPutM, dsAfter, dsSwitchedM, dsAfterTurn, dsAfterA, dsLaid, dsFloorD, dsChosen, dsBurn, dsSpots, dsTwice, dsLaw, dsInit, dsDo, dsLightM, dsSwitchM, dsDropM, dsTwin]
def fa : List He.Fa := [.glo "lean", .glo "side", .glo "box_around", .glo "blocks_meet", .glo "beside", .glo "pieces_meet", .glo "block_meets", .glo "check_sift", .glo "sifted", .glo "both_sifts", .glo "summed", .glo "figures_of", .glo "let_by", .glo "let_by_all", .glo "brought", .glo "choice_lights", .glo "picked_light", .glo "check_place", .glo "check_light", .glo "row_number", .glo "counts_of", .glo "checked_setting", .glo "picks_of", .glo "bare_floor", .glo "first_state", .glo "with_thing", .glo "check_room", .glo "put", .glo "thing_of", .glo "without_thing", .glo "do_lamp", .glo "do_post", .glo "do_pane", .glo "do_switch", .glo "do_drop", .glo "applied", .glo "_law_same", .glo "_law_pull", .glo "_law_bag", .glo "_law_corners", .glo "_law_sum", .glo "_law_grid", .glo "_law_spot", .glo "_law_one", .glo "_law_mixed", .glo "_law_other_spot", .glo "_law_tint", .glo "_law_block", .glo "_law_letters", .glo "_law_thing_deed", .glo "_law_new", .glo "_law_copy", .glo "_law_counts", .glo "_law_put", .glo "_law_after_put", .glo "_law_switched", .glo "_law_after_turn", .glo "_law_after", .glo "_law_laid", .glo "_law_floor_deeds", .glo "_law_chosen", .glo "_law_burning", .glo "_law_spots", .glo "_law_twice", .glo "law", .glo "BadPlace", .glo "BadLight", .glo "BadSift", .glo "BadBlock", .glo "BadPiece", .glo "BadSetting", .glo "Unknown", .glo "Full", .glo "ShadeError", .glo "Missing", .glo "Crowded", .glo "House", .glo "SIFTS", .glo "DARK", .glo "SORTS", .glo "FORMS", .glo "DOERS", .free "len", .free "list", .free "int", .free "str", .free "bool", .free "tuple", .free "dict", .free "isinstance", .free "all", .free "any", .free "range", .free "super", .free "zip", .free "min", .free "max", .free "abs", .free "sum", .free "sorted", .int "FAR" 1000000, .int "BRIGHT" 1000000, .int "MOST_THINGS" 12, .str "ALL_COLOURS" "rgb", .cls "House", .mkr "House", .noat "House" "state", .noat "House" "past", .noat "House" "ahead", .noat "House" "trying", .meth "House" "do", .meth "House" "light", .meth "House" "switch", .meth "House" "drop", .meth "House" "twin"]
def tb : List He.Tab := [(fun K => He.ga K "FORMS", [("lamp" : Str), ("unsure" : Str), ("post" : Str), ("pane" : Str), ("move" : Str), ("switch" : Str), ("drop" : Str), ("look" : Str), ("strike" : Str), ("settle" : Str), ("many" : Str)]), (fun K => He.ga K "DOERS", [("lamp" : Str), ("unsure" : Str), ("post" : Str), ("pane" : Str), ("move" : Str), ("switch" : Str), ("drop" : Str), ("look" : Str), ("strike" : Str), ("settle" : Str), ("many" : Str)])]
abbrev sBadPlace : Stmt := inClass (top 3) 0
def dBadPlace : ErrD := ⟨"BadPlace", "BadPlace.__init__", sBadPlace, "no such place", "/claim/cut.py", "ValueError", "ValueError.__new__", "ValueError.__init__"⟩
abbrev sBadLight : Stmt := inClass (top 4) 0
def dBadLight : ErrD := ⟨"BadLight", "BadLight.__init__", sBadLight, "no such light", "/claim/cut.py", "ValueError", "ValueError.__new__", "ValueError.__init__"⟩
abbrev sBadSift : Stmt := inClass (top 5) 0
def dBadSift : ErrD := ⟨"BadSift", "BadSift.__init__", sBadSift, "no such sift", "/claim/cut.py", "ValueError", "ValueError.__new__", "ValueError.__init__"⟩
abbrev sBadBlock : Stmt := inClass (top 6) 0
def dBadBlock : ErrD := ⟨"BadBlock", "BadBlock.__init__", sBadBlock, "no such block", "/claim/cut.py", "ValueError", "ValueError.__new__", "ValueError.__init__"⟩
abbrev sBadPiece : Stmt := inClass (top 7) 0
def dBadPiece : ErrD := ⟨"BadPiece", "BadPiece.__init__", sBadPiece, "no such piece", "/claim/cut.py", "ValueError", "ValueError.__new__", "ValueError.__init__"⟩
abbrev sBadSetting : Stmt := inClass (top 10) 0
def dBadSetting : ErrD := ⟨"BadSetting", "BadSetting.__init__", sBadSetting, "no such setting", "/claim/cut.py", "ValueError", "ValueError.__new__", "ValueError.__init__"⟩
abbrev sUnknown : Stmt := inClass (top 13) 0
def dUnknown : ErrD := ⟨"Unknown", "Unknown.__init__", sUnknown, "an open lamp stands", "/claim/cut.py", "ValueError", "ValueError.__new__", "ValueError.__init__"⟩
abbrev sFull : Stmt := inClass (top 18) 0
def dFull : ErrD := ⟨"Full", "Full.__init__", sFull, "no more have room", "/claim/cut.py", "RuntimeError", "RuntimeError.__new__", "RuntimeError.__init__"⟩
def exB (K : PySem.W.Frag) : Bool := He.tupB K "SIFTS" [.str "", .str "r", .str "g", .str "b", .str "rg", .str "rb", .str "gb", .str "rgb"] && (He.tupB K "DARK" [.int 0, .int 0, .int 0] && (He.tupB K "SORTS" [.str "lamp", .str "post", .str "pane"] && (strB (PySem.W.nsIn K (He.ga K "FORMS") "lamp") "nnnnn" && (strB (PySem.W.nsIn K (He.ga K "FORMS") "post") "nnnn" && (strB (PySem.W.nsIn K (He.ga K "FORMS") "pane") "nnnns" && (strB (PySem.W.nsIn K (He.ga K "FORMS") "switch") "n" && (strB (PySem.W.nsIn K (He.ga K "FORMS") "drop") "wn" && (He.eqO (PySem.W.nsIn K (He.ga K "DOERS") "lamp") (some (some (.ref (He.ga K "do_lamp")))) && (He.eqO (PySem.W.nsIn K (He.ga K "DOERS") "post") (some (some (.ref (He.ga K "do_post")))) && (He.eqO (PySem.W.nsIn K (He.ga K "DOERS") "pane") (some (some (.ref (He.ga K "do_pane")))) && (He.eqO (PySem.W.nsIn K (He.ga K "DOERS") "switch") (some (some (.ref (He.ga K "do_switch")))) && (He.eqO (PySem.W.nsIn K (He.ga K "DOERS") "drop") (some (some (.ref (He.ga K "do_drop")))) && (decide (He.ga K "do_post" ≠ He.ga K "do_lamp") && (decide (He.ga K "do_pane" ≠ He.ga K "do_lamp") && (decide (He.ga K "do_pane" ≠ He.ga K "do_post") && (decide (He.ga K "do_switch" ≠ He.ga K "do_lamp") && (decide (He.ga K "do_switch" ≠ He.ga K "do_post") && (decide (He.ga K "do_switch" ≠ He.ga K "do_pane") && (decide (He.ga K "do_drop" ≠ He.ga K "do_lamp") && (decide (He.ga K "do_drop" ≠ He.ga K "do_post") && (decide (He.ga K "do_drop" ≠ He.ga K "do_pane") && (decide (He.ga K "do_drop" ≠ He.ga K "do_switch")))))))))))))))))))))))
def sel : Sel := ⟨[("lean" : Str), ("side" : Str), ("box_around" : Str), ("blocks_meet" : Str), ("beside" : Str), ("pieces_meet" : Str), ("block_meets" : Str), ("check_sift" : Str), ("sifted" : Str), ("both_sifts" : Str), ("summed" : Str), ("figures_of" : Str), ("let_by" : Str), ("let_by_all" : Str), ("brought" : Str), ("choice_lights" : Str), ("picked_light" : Str), ("check_place" : Str), ("check_light" : Str), ("row_number" : Str), ("counts_of" : Str), ("checked_setting" : Str), ("picks_of" : Str), ("bare_floor" : Str), ("first_state" : Str), ("with_thing" : Str), ("check_room" : Str), ("put" : Str), ("thing_of" : Str), ("without_thing" : Str), ("do_lamp" : Str), ("do_post" : Str), ("do_pane" : Str), ("do_switch" : Str), ("do_drop" : Str), ("applied" : Str), ("_law_same" : Str), ("_law_pull" : Str), ("_law_bag" : Str), ("_law_corners" : Str), ("_law_sum" : Str), ("_law_grid" : Str), ("_law_spot" : Str), ("_law_one" : Str), ("_law_mixed" : Str), ("_law_other_spot" : Str), ("_law_tint" : Str), ("_law_block" : Str), ("_law_letters" : Str), ("_law_thing_deed" : Str), ("_law_new" : Str), ("_law_copy" : Str), ("_law_counts" : Str), ("_law_put" : Str), ("_law_after_put" : Str), ("_law_switched" : Str), ("_law_after_turn" : Str), ("_law_after" : Str), ("_law_laid" : Str), ("_law_floor_deeds" : Str), ("_law_chosen" : Str), ("_law_burning" : Str), ("_law_spots" : Str), ("_law_twice" : Str), ("law" : Str), ("BadPlace" : Str), ("BadLight" : Str), ("BadSift" : Str), ("BadBlock" : Str), ("BadPiece" : Str), ("BadSetting" : Str), ("Unknown" : Str), ("Full" : Str), ("ShadeError" : Str), ("Missing" : Str), ("Crowded" : Str), ("House" : Str), ("SIFTS" : Str), ("DARK" : Str), ("SORTS" : Str), ("FORMS" : Str), ("DOERS" : Str)], [(("House" : Str), ("__init__" : Str)), (("House" : Str), ("do" : Str)), (("House" : Str), ("light" : Str)), (("House" : Str), ("switch" : Str)), (("House" : Str), ("drop" : Str)), (("House" : Str), ("twin" : Str)), (("BadPlace" : Str), ("__init__" : Str)), (("BadLight" : Str), ("__init__" : Str)), (("BadSift" : Str), ("__init__" : Str)), (("BadBlock" : Str), ("__init__" : Str)), (("BadPiece" : Str), ("__init__" : Str)), (("BadSetting" : Str), ("__init__" : Str)), (("Unknown" : Str), ("__init__" : Str)), (("Full" : Str), ("__init__" : Str))]⟩
abbrev R : PySem.W.OpenRow := PySem.W.OpenLaw.row PySem.Challenge.rw_hueshade_k14_whole_floors_of_one_lamp_ea
abbrev hk : PySem.W.Hook := hookY sel fa fn tb [] [dBadPlace, dBadLight, dBadSift, dBadBlock, dBadPiece, dBadSetting, dUnknown, dFull] exB
def ob (s : PySem.W.SharedT) : AlY := obsY sel fa fn tb [] [dBadPlace, dBadLight, dBadSift, dBadBlock, dBadPiece, dBadSetting, dUnknown, dFull] exB (HandSHeadRun.getT s)
theorem ob_eq (s : PySem.W.SharedT) : ob s = hk.obs s.abs := obsY_eq (HandSHeadRun.getT_eq s)
abbrev others : List Str := [("_wall" : Str), ("__name__" : Str), ("ShadeError" : Str), ("BadPlace" : Str), ("BadLight" : Str), ("BadSift" : Str), ("BadBlock" : Str), ("BadPiece" : Str), ("BadMenu" : Str), ("BadChoice" : Str), ("BadSetting" : Str), ("BadSort" : Str), ("BadDeed" : Str), ("Unknown" : Str), ("Missing" : Str), ("NoThing" : Str), ("NoLook" : Str), ("Crowded" : Str), ("Full" : Str), ("Looked" : Str), ("TooMany" : Str), ("FAR" : Str), ("lean" : Str), ("side" : Str), ("box_around" : Str), ("blocks_meet" : Str), ("beside" : Str), ("pieces_meet" : Str), ("block_meets" : Str), ("BRIGHT" : Str), ("SIFTS" : Str), ("DARK" : Str), ("check_sift" : Str), ("sifted" : Str), ("summed" : Str), ("both_sifts" : Str), ("ALL_COLOURS" : Str), ("figures_of" : Str), ("let_by" : Str), ("let_by_all" : Str), ("brought" : Str), ("choice_lights" : Str), ("picked_light" : Str), ("check_place" : Str), ("check_light" : Str), ("MOST_SETTINGS" : Str), ("how_many" : Str), ("all_rows" : Str), ("row_number" : Str), ("counts_of" : Str), ("settings_of" : Str), ("checked_setting" : Str), ("picks_of" : Str), ("setting_lights" : Str), ("look_answers" : Str), ("all_meet" : Str), ("fitting" : Str), ("MOST_THINGS" : Str), ("MOST_LOOKS" : Str), ("SORTS" : Str), ("bare_floor" : Str), ("with_thing" : Str), ("without_thing" : Str), ("thing_of" : Str), ("shifted_place" : Str), ("shifted" : Str), ("places_of" : Str), ("with_moved" : Str), ("FORMS" : Str), ("first_state" : Str), ("check_room" : Str), ("put" : Str), ("do_lamp" : Str), ("do_unsure" : Str), ("do_post" : Str), ("do_pane" : Str), ("do_move" : Str), ("do_switch" : Str), ("do_drop" : Str), ("do_look" : Str), ("do_strike" : Str), ("with_choice" : Str), ("do_settle" : Str), ("do_many" : Str), ("DOERS" : Str), ("applied" : Str), ("thing_text" : Str), ("words_text" : Str), ("row_text" : Str), ("deed_rows" : Str), ("page_text" : Str), ("WHITE" : Str), ("House" : Str), ("_law_bag" : Str), ("_law_pull" : Str), ("_law_one" : Str), ("_law_mixed" : Str), ("_law_same" : Str), ("_law_corners" : Str), ("_law_sum" : Str), ("_law_grid" : Str), ("_law_spot" : Str), ("_law_other_spot" : Str), ("_law_tint" : Str), ("_law_block" : Str), ("_law_letters" : Str), ("_law_thing_deed" : Str), ("_law_new" : Str), ("_law_copy" : Str), ("_law_counts" : Str), ("_law_snap" : Str), ("_law_put" : Str), ("_law_moved" : Str), ("_law_after_put" : Str), ("_law_without" : Str), ("_law_switched" : Str), ("_law_after_turn" : Str), ("_law_after_note" : Str), ("_law_after" : Str), ("_law_laid" : Str), ("_law_floor_deeds" : Str), ("_law_chosen" : Str), ("_law_burning" : Str), ("_law_spots" : Str), ("_law_twice" : Str)]
theorem runTa (w : World) : RunA R (PySem.W.view R.prog [136]) 20000 others (w.withFollow "special-get-raises" true) := by
  intro os
  kernel_rfl
theorem runTb (w : World) : RunB R hk ob 20000 (w.withFollow "special-get-raises" true) := by
  intro os
  kernel_rfl
theorem runFa (w : World) : RunA R (PySem.W.view R.prog [136]) 20000 others (w.withFollow "special-get-raises" false) := by
  intro os
  kernel_rfl
theorem runFb (w : World) : RunB R hk ob 20000 (w.withFollow "special-get-raises" false) := by
  intro os
  kernel_rfl
theorem run (w : World) : HandSHeadRun.RunEq R (PySem.W.view R.prog [136]) hk ob 20000 others w := by
  have h : ∀ b : Bool, HandSHeadRun.RunEq R (PySem.W.view R.prog [136]) hk ob 20000 others (w.withFollow "special-get-raises" b) := fun b => match b with
    | true => run_ab (runTa w) (runTb w)
    | false => run_ab (runFa w) (runFb w)
  have z := h (w.params.followText "special-get-raises")
  rwa [World.withFollow_self] at z
end Hs
namespace Hs
open PySem PySem.Spec PyProof.Rows L2 Evl
/-- an own def that may raise, by its promise; dvs: the defaults that fill up -/
structure OwnX (P : Program) (w : World) (K : PySem.W.Frag) (mg : Str → Option Value) (base : Heap) (k : Nat) (x : Str) (ps : List Str) (dvs : List V) (sp : Sp) : Prop where
  ex : ∃ (f : Addr) (fd : FuncData) (ds : List Value), FnOk P w K mg base (L2.CX P w) k f fd ps sp ∧ mg x = some (.ref f) ∧ PySem.W.keepIn K (.ref f) = true ∧ Vals dvs ds ∧ Binds K fd ps ds
/-- .. where it raises nothing -/
theorem pe_ownX {X : Cx} {k j : Nat} {x : Str} {ps : List Str} {dvs : List V} {sp : Sp} {e : Expr} {es : List Expr} {t : TA} {p pos : Pos} (O : OwnX X.prog X.w X.K X.mg X.base k x ps dvs sp) (hr : Room j X.A) (hk : k ≤ j) (hg : Gl X x) (ha : PA X (e :: es) t)
    (hdb : (x == ("__debug__" : Str)) = false := by decide) (he : starEach (e :: es) X.env = (false, eval e X.env) :: starEach es X.env := by rfl) (hpl : (backTo pos (starEach es X.env)).any (·.1) = false := by rfl) :
    PE X (.Call (.Name x p) (e :: es) [] pos) (tCall sp dvs E0 t) := by
  obtain ⟨f, fd, ds, F, m, kp, d, b⟩ := O.ex
  exact pe_call F (hr.mono hk) hg m kp b d passL ha hdb he hpl
/-- .. where what it raises is taken -/
theorem pe_ownT {X : Cx} {k j : Nat} {x : Str} {ps : List Str} {dvs : List V} {sp : Sp} {e : Expr} {es : List Expr} {t : TA} {p pos : Pos} {Ex : XK} (O : OwnX X.prog X.w X.K X.mg X.base k x ps dvs sp) (hr : Room j X.A) (hk : k ≤ j) (hg : Gl X x) (hx : Passes (L2.CX X.prog X.w) X Ex) (ha : PA X (e :: es) t)
    (hdb : (x == ("__debug__" : Str)) = false := by decide) (he : starEach (e :: es) X.env = (false, eval e X.env) :: starEach es X.env := by rfl) (hpl : (backTo pos (starEach es X.env)).any (·.1) = false := by rfl) :
    PE X (.Call (.Name x p) (e :: es) [] pos) (tCall sp dvs Ex t) := by
  obtain ⟨f, fd, ds, F, m, kp, d, b⟩ := O.ex
  exact pe_call F (hr.mono hk) hg m kp b d hx ha hdb he hpl
def rHas : R2 := fun x y H Q => ∃ (c : Nat) (z : Str), x = .str ⟨#[c]⟩ ∧ y = .str z ∧ Q (.bl (decide (c ∈ z.cps.toList))) H
theorem op_has {X : Cx} : OpR X (compareOp .In) rHas := op_in_sign
theorem pi_listK {X : Cx} {K : PySem.W.Frag} {tg l : Expr} {tl : TE} (hl : PE X l tl) (hK : X.K = K := by rfl) : PI X tg l (iList K tl) := by
  subst hK
  exact pi_list hl
end Hs
namespace Hs
open PySem PySem.Spec PyProof.Rows L2
/-! ### for x in zip(*rows), x a name: the tuple that was handed out may be held or gone -/
abbrev IsZipF (h : Heap) (z TI TO : Addr) (f0 : Value) (f1 : Bool) : Prop := h.get? z = some { cls := .type "zip", dict := none, data := .fields #[f0, .bool f1, .bool false, .ref TI, .ref TO], slots := #[] }
abbrev IsTupA (h : Heap) (T : Addr) (arr : Array Value) : Prop := h.get? T = some { cls := .type "tuple", data := .seq arr }
def OwnF (f0 : Value) : Prop := f0 = .none ∨ ∃ T : Nat, f0 = rawInt T
theorem _root_.PySem.Heap.IsTuple.at' {h h' : Heap} {l : Addr} {xs : Array Value} (x : h.IsTuple l xs) (k : ∀ o, h.get? l = some o → h'.get? l = some o) : h'.IsTuple l xs := by
  obtain ⟨o, ho, r⟩ := x
  exact ⟨o, k o ho, r⟩
theorem set2 {arr : Array Value} {x1 x2 : Value} (h : arr.size = 2) : ((arr).setIfInBounds 0 x1).setIfInBounds 1 x2 = #[x1, x2] := by
  obtain ⟨l⟩ := arr
  match l, h with
  | [a, b], _ => rfl
theorem set3 {arr : Array Value} {x1 x2 x3 : Value} (h : arr.size = 3) : (((arr).setIfInBounds 0 x1).setIfInBounds 1 x2).setIfInBounds 2 x3 = #[x1, x2, x3] := by
  obtain ⟨l⟩ := arr
  match l, h with
  | [a, b, c], _ => rfl
section
variable {prog : Program} {w : World} {A : Around} {E : Value → Shared → Prop} {s : Shared}
theorem upSeq {T : Addr} {arr : Array Value} {x : Value} {k : Nat} {Q : Unit → Shared → Prop} (hT : IsTupA s.heap T arr) (hn : arr.size ≤ 10) (h : ∀ h', IsTupA h' T (arr.setIfInBounds k x) → Heap.SameBut T s.heap h' → Q () { s with heap := h' }) : wpAny (model prog w) A (updateSeq T (·.setIfInBounds k x)) Q E s := by
  refine wpAny_updateSeq hT rfl (h _ ?_ (Heap.SameBut.update ..)) (hz := Nat.le_trans hn (by decide)) (_hz' := by rw [Array.size_setIfInBounds]; exact Nat.le_trans hn (by decide))
  rw [IsTupA, Heap.get?_update_self _ hT rfl]
  simp [Obj.mapSeq]
theorem owned_any {z TI TO : Addr} {f0 : Value} {f1 : Bool} {Q : Bool → Shared → Prop} (hz : IsZipF s.heap z TI TO f0 f1) (hf0 : OwnF f0) (ht : Q true s) (hf : ∀ h', IsZipF h' z TI TO f0 true → Heap.SameBut z s.heap h' → Q false { s with heap := h' }) :
    wpAny (model prog w) A (Builtin.SmallTypes.ownedTupleIsFree (.ref z)) Q E s := by
  unfold Builtin.SmallTypes.ownedTupleIsFree
  rcases hf0 with rfl | ⟨T, rfl⟩
  · exact wpAny_bind (wpAny_field hz rfl (x := .none) rfl (wpAny_pure ht))
  · refine wpAny_bind (wpAny_field hz rfl (x := rawInt T) rfl ?_)
    show wpAny _ _ (loadIfAlive ((T : Int).toNat) >>= _) _ _ _
    rw [Int.toNat_natCast]
    have al : ∀ {Q' : Option Obj → Shared → Prop}, Q' (s.heap.get? T) s → wpAny (model prog w) A (loadIfAlive T) Q' E s := fun h => fun _ _ _ => h
    refine wpAny_bind (al ?_)
    cases hg : s.heap.get? T with
    | none =>
      simp only [Option.isNone_none, if_true]
      exact wpAny_pure ht
    | some o =>
      simp only [Option.isNone_some, Bool.false_eq_true, if_false]
      refine wpAny_bind (wpAny_field hz rfl (x := .bool f1) rfl ?_)
      cases f1 with
      | true =>
        rw [if_neg (show ¬ ((Value.bool true != Value.bool true) = true) from Bool.false_ne_true)]
        exact wpAny_pure (hf s.heap hz (Heap.SameBut.refl _ _))
      | false =>
        rw [if_pos (show (Value.bool false != Value.bool true) = true from rfl)]
        exact wpAny_bind (wpAny_setField_rec hz (by simp) fun h₁ hz₁ hs₁ => wpAny_pure (hf h₁ hz₁ hs₁))
theorem pyIter_zipF {z TI TO : Addr} {f0 : Value} {f1 : Bool} {Q : Value → Shared → Prop} (hz : IsZipF s.heap z TI TO f0 f1) (h : Q (.ref z) s) : wpAny (model prog w) A (pyIter (.ref z)) Q E s := by
  have hT : s.TypeIs (.ref z) "zip" := ⟨_, hz, rfl⟩
  refine wpAny_pyIter_slot hT F.slot_zip_iter (wpAny_call_entry F.slot_zip_iter hT F.entry_zip_iter ?_ (F.args_zip_iter_1 _))
  show wpAny _ _ (ret (.ref z)) _ _ s
  exact wpAny_pure ⟨_, rfl, "zip", _, hT, F.slot_zip_next.lookup, h⟩
end
end Hs
namespace Hs
open PySem PySem.Spec PyProof.Rows L2
structure ZA2 (z TI TO i1 i2 l1 l2 : Addr) : Prop where
  TIz : TI ≠ z
  TOz : TO ≠ z
  TITO : TI ≠ TO
  i1z : i1 ≠ z
  TIi1 : TI ≠ i1
  TOi1 : TO ≠ i1
  i2z : i2 ≠ z
  TIi2 : TI ≠ i2
  TOi2 : TO ≠ i2
  i1i2 : i1 ≠ i2
  l1z : l1 ≠ z
  l1TO : l1 ≠ TO
  l1i1 : l1 ≠ i1
  l1i2 : l1 ≠ i2
  l2z : l2 ≠ z
  l2TO : l2 ≠ TO
  l2i1 : l2 ≠ i1
  l2i2 : l2 ≠ i2
section
variable {prog : Program} {w : World} {A : Around} {E : Value → Shared → Prop} {s : Shared}
theorem z2_next_item {z TI TO i1 i2 l1 l2 : Addr} {k : Nat} {xs1 xs2 : Array Value} {f0 : Value} {f1 : Bool} {arr : Array Value} {x1 x2 : Value} {Q : Value → Shared → Prop} (D : ZA2 z TI TO i1 i2 l1 l2) (hz : IsZipF s.heap z TI TO f0 f1) (hf0 : OwnF f0) (hTI : IsTupA s.heap TI #[.ref i1, .ref i2]) (hTO : IsTupA s.heap TO arr) (hsz : arr.size = 2) (h1 : s.heap.IsTupleIter i1 l1 k) (h2 : s.heap.IsTupleIter i2 l2 k) (hl1 : s.heap.IsTuple l1 xs1) (hl2 : s.heap.IsTuple l2 xs2) (hx1 : xs1[k]? = some x1) (hx2 : xs2[k]? = some x2)
    (hQ : ∀ h' f0' f1' arr', OwnF f0' → IsZipF h' z TI TO f0' f1' → IsTupA h' TO arr' → arr'.size = 2 → h'.IsTupleIter i1 l1 (k + 1) → h'.IsTupleIter i2 l2 (k + 1) → IsTupA h' s.heap.objs.size #[x1, x2] → h'.objs.size = s.heap.objs.size + 1 → (∀ c o, c ≠ z → c ≠ TO → c ≠ i1 → c ≠ i2 → s.heap.get? c = some o → h'.get? c = some o) → Q (.ref s.heap.objs.size) { s with heap := h' }) :
    wpAny (model prog w) A (Builtin.«zip.__next__» ⟨[.ref z], []⟩) (fun fin s' => ∃ v, fin = .done (.ret v) ∧ Q v s') E s := by
  show wpAny _ _ (field (.ref z) 2 >>= _) _ _ _
  refine wpAny_bind (wpAny_field hz rfl (x := .bool false) rfl ?_)
  show wpAny _ _ (field (.ref z) 3 >>= _) _ _ _
  refine wpAny_bind (wpAny_field hz rfl (x := .ref TI) rfl ?_)
  refine wpAny_bind (wpAny_seqItems hTI rfl ?_)
  show wpAny _ _ (Builtin.SmallTypes.ownedTupleIsFree (.ref z) >>= _) _ _ _
  refine wpAny_bind (owned_any hz hf0 ?_ fun h₁ hz₁ hs₁ => ?_)
  · simp only [if_true]
    refine wpAny_bind (wpAny_rule ?_)
    refine wpAny_bind (wpAny_field hz rfl (x := .ref TO) rfl ?_)
    refine wpAny_bind (wpAny_setField_rec hz (by simp) fun h₀ hz₀ hs₀ => ?_)
    replace hz₀ : IsZipF h₀ z TI TO .ellipsis f1 := hz₀
    have K0 : ∀ c o, c ≠ z → s.heap.get? c = some o → h₀.get? c = some o := fun c o c1 e => hs₀.extBut _ _ c1 e
    have N0 : h₀.objs.size = s.heap.objs.size := hs₀.1
    have T0 : IsTupA h₀ TO arr := K0 _ _ D.TOz hTO
    have J1_0 : h₀.IsTupleIter i1 l1 k := h1.at fun o e => K0 _ o D.i1z e
    have L1_0 : h₀.IsTuple l1 xs1 := hl1.at' fun o e => K0 _ o D.l1z e
    have J2_0 : h₀.IsTupleIter i2 l2 k := h2.at fun o e => K0 _ o D.i2z e
    have L2_0 : h₀.IsTuple l2 xs2 := hl2.at' fun o e => K0 _ o D.l2z e
    refine wpAny_bind ?_
    simp only [List.zipIdx_cons, List.zipIdx_nil, List.forIn_cons, List.forIn_nil]
    refine wpAny_bind (wpAny_bind (wpAny_onRaise ?_))
    show wpAny _ _ (Builtin.SmallTypes.nextOf (.ref i1) >>= _) _ _ _
    refine wpAny_bind (RZ.nextOf_tuple_item J1_0 L1_0 hx1 fun g1 m1 gs1 => wpAny_pure ?_)
    have V1 : IsTupA g1 TO (arr) := gs1.extBut _ _ D.TOi1 T0
    refine wpAny_bind (wpAny_seqItems V1 rfl ?_)
    refine wpAny_bind (upSeq V1 (by simp [hsz]) fun u1 T1 us1 => ?_)
    refine wpAny_bind (wpAny_letGo (wpAny_pure ?_))
    have J1_1 : u1.IsTupleIter i1 l1 (k + 1) := m1.extBut us1.extBut D.TOi1.symm
    have L1_1 : u1.IsTuple l1 xs1 := (L1_0.extBut gs1.extBut D.l1i1).extBut us1.extBut D.l1TO
    have J2_1 : u1.IsTupleIter i2 l2 k := (J2_0.extBut gs1.extBut D.i1i2.symm).extBut us1.extBut D.TOi2.symm
    have L2_1 : u1.IsTuple l2 xs2 := (L2_0.extBut gs1.extBut D.l2i1).extBut us1.extBut D.l2TO
    have K1 : ∀ c o, c ≠ z → c ≠ TO → c ≠ i1 → s.heap.get? c = some o → u1.get? c = some o := fun c o c1 c2 q1 e => us1.extBut _ _ c2 (gs1.extBut _ _ q1 (K0 c o c1  e))
    have Z1 : IsZipF u1 z TI TO .ellipsis f1 := us1.extBut _ _ D.TOz.symm (gs1.extBut _ _ D.i1z.symm hz₀)
    have N1 : u1.objs.size = s.heap.objs.size := by rw [us1.1, gs1.1, N0]
    refine wpAny_bind (wpAny_bind (wpAny_onRaise ?_))
    show wpAny _ _ (Builtin.SmallTypes.nextOf (.ref i2) >>= _) _ _ _
    refine wpAny_bind (RZ.nextOf_tuple_item J2_1 L2_1 hx2 fun g2 m2 gs2 => wpAny_pure ?_)
    have V2 : IsTupA g2 TO ((arr).setIfInBounds 0 x1) := gs2.extBut _ _ D.TOi2 T1
    refine wpAny_bind (wpAny_seqItems V2 rfl ?_)
    refine wpAny_bind (upSeq V2 (by simp [hsz]) fun u2 T2 us2 => ?_)
    refine wpAny_bind (wpAny_letGo (wpAny_pure ?_))
    have J1_2 : u2.IsTupleIter i1 l1 (k + 1) := (J1_1.extBut gs2.extBut D.i1i2).extBut us2.extBut D.TOi1.symm
    have L1_2 : u2.IsTuple l1 xs1 := (L1_1.extBut gs2.extBut D.l1i2).extBut us2.extBut D.l1TO
    have J2_2 : u2.IsTupleIter i2 l2 (k + 1) := m2.extBut us2.extBut D.TOi2.symm
    have L2_2 : u2.IsTuple l2 xs2 := (L2_1.extBut gs2.extBut D.l2i2).extBut us2.extBut D.l2TO
    have K2 : ∀ c o, c ≠ z → c ≠ TO → c ≠ i1 → c ≠ i2 → s.heap.get? c = some o → u2.get? c = some o := fun c o c1 c2 q1 q2 e => us2.extBut _ _ c2 (gs2.extBut _ _ q2 (K1 c o c1 c2 q1 e))
    have Z2 : IsZipF u2 z TI TO .ellipsis f1 := us2.extBut _ _ D.TOz.symm (gs2.extBut _ _ D.i2z.symm Z1)
    have N2 : u2.objs.size = s.heap.objs.size := by rw [us2.1, gs2.1, N1]
    refine wpAny_pure ?_
    refine wpAny_bind (wpAny_seqItems T2 rfl ?_)
    have ea : (((arr).setIfInBounds 0 x1).setIfInBounds 1 x2) = #[x1, x2] := set2 hsz
    rw [ea] at T2 ⊢
    refine wpAny_bind (wpAny_newTuple ?_)
    show wpAny _ _ (Builtin.SmallTypes.ownedTupleHandOut (.ref z) (.ref u2.objs.size) >>= _) _ _ _
    refine wpAny_bind ?_
    unfold Builtin.SmallTypes.ownedTupleHandOut
    have zlt : z < u2.objs.size := Heap.lt_size Z2
    have hz₆ : IsZipF (u2.push { cls := .type "tuple", data := .seq #[x1, x2] }) z TI TO .ellipsis f1 := Heap.get?_push_of_some _ Z2
    refine wpAny_bind (wpAny_setField_rec hz₆ (by simp) fun h₇ hz₇ hs₇ => ?_)
    replace hz₇ : IsZipF h₇ z TI TO (rawInt u2.objs.size) f1 := hz₇
    refine wpAny_setField_rec hz₇ (by simp) fun h₈ hz₈ hs₈ => ?_
    replace hz₈ : IsZipF h₈ z TI TO (rawInt u2.objs.size) false := hz₈
    have up : ∀ c o, c ≠ z → u2.get? c = some o → h₈.get? c = some o := fun c o c1 e => hs₈.extBut _ _ c1 (hs₇.extBut _ _ c1 (Heap.get?_push_of_some _ e))
    have hT₈ : IsTupA h₈ u2.objs.size #[x1, x2] := hs₈.extBut _ _ (Nat.ne_of_gt zlt) (hs₇.extBut _ _ (Nat.ne_of_gt zlt) (Heap.get?_push_size _ rfl))
    have hz8 : h₈.objs.size = u2.objs.size + 1 := by rw [hs₈.1, hs₇.1, Heap.size_push]
    refine wpAny_pure ⟨_, rfl, ?_⟩
    show Q (.ref u2.objs.size) _
    rw [N2] at hz₈ hT₈ hz8 ⊢
    exact hQ h₈ _ _ _ (.inr ⟨_, rfl⟩) hz₈ (up _ _ D.TOz T2) rfl (J1_2.at fun o e => up _ o D.i1z e) (J2_2.at fun o e => up _ o D.i2z e) hT₈ hz8 fun c o c1 c2 q1 q2 e => up c o c1 (K2 c o c1 c2 q1 q2 e)
  · simp only [Bool.false_eq_true, if_false]
    have K0 : ∀ c o, c ≠ z → s.heap.get? c = some o → h₁.get? c = some o := fun c o c1 e => hs₁.extBut _ _ c1 e
    have J1_0 : h₁.IsTupleIter i1 l1 k := h1.at fun o e => K0 _ o D.i1z e
    have L1_0 : h₁.IsTuple l1 xs1 := hl1.at' fun o e => K0 _ o D.l1z e
    have J2_0 : h₁.IsTupleIter i2 l2 k := h2.at fun o e => K0 _ o D.i2z e
    have L2_0 : h₁.IsTuple l2 xs2 := hl2.at' fun o e => K0 _ o D.l2z e
    refine wpAny_bind ?_
    rw [← Array.forIn_toList]
    simp only [List.forIn_cons, List.forIn_nil]
    refine wpAny_bind (wpAny_bind (wpAny_holding ?_))
    show wpAny _ _ (Builtin.SmallTypes.nextOf (.ref i1) >>= _) _ _ _
    refine wpAny_bind (RZ.nextOf_tuple_item (s := { s with heap := h₁ }) J1_0 L1_0 hx1 fun g1 m1 gs1 => wpAny_pure ?_)
    refine wpAny_pure ?_
    have J1_1 : g1.IsTupleIter i1 l1 (k + 1) := m1
    have L1_1 : g1.IsTuple l1 xs1 := L1_0.extBut gs1.extBut D.l1i1
    have J2_1 : g1.IsTupleIter i2 l2 k := J2_0.extBut gs1.extBut D.i1i2.symm
    have L2_1 : g1.IsTuple l2 xs2 := L2_0.extBut gs1.extBut D.l2i1
    refine wpAny_bind (wpAny_bind (wpAny_holding ?_))
    show wpAny _ _ (Builtin.SmallTypes.nextOf (.ref i2) >>= _) _ _ _
    refine wpAny_bind (RZ.nextOf_tuple_item (s := { s with heap := g1 }) J2_1 L2_1 hx2 fun g2 m2 gs2 => wpAny_pure ?_)
    refine wpAny_pure (wpAny_pure ?_)
    have J1_2 : g2.IsTupleIter i1 l1 (k + 1) := J1_1.extBut gs2.extBut D.i1i2
    have L1_2 : g2.IsTuple l1 xs1 := L1_1.extBut gs2.extBut D.l1i2
    have J2_2 : g2.IsTupleIter i2 l2 (k + 1) := m2
    have L2_2 : g2.IsTuple l2 xs2 := L2_1.extBut gs2.extBut D.l2i2
    show wpAny _ _ (newTuple [x1, x2] >>= _) _ _ _
    refine wpAny_bind (wpAny_newTuple ?_)
    have hsz' : g2.objs.size = s.heap.objs.size := by rw [gs2.1, gs1.1, hs₁.1]
    have hz3 : IsZipF g2 z TI TO f0 true := (gs2.extBut _ _ D.i2z.symm (gs1.extBut _ _ D.i1z.symm hz₁))
    have hk : ∀ c o, c ≠ z → c ≠ i1 → c ≠ i2 → s.heap.get? c = some o → g2.get? c = some o := fun c o c1 q1 q2 e => (gs2.extBut _ _ q2 (gs1.extBut _ _ q1 (K0 c o c1 e)))
    refine wpAny_pure ⟨_, rfl, ?_⟩
    show Q (.ref g2.objs.size) _
    have hp : IsTupA (g2.push { cls := .type "tuple", data := .seq #[x1, x2] }) g2.objs.size #[x1, x2] := Heap.get?_push_size _ rfl
    have hz4 : (g2.push { cls := .type "tuple", data := .seq #[x1, x2] }).objs.size = g2.objs.size + 1 := Heap.size_push ..
    rw [hsz'] at hp hz4 ⊢
    exact hQ _ _ _ _ hf0 (Heap.get?_push_of_some _ hz3) (Heap.get?_push_of_some _ (hk _ _ D.TOz D.TOi1 D.TOi2 hTO)) hsz (J1_2.at fun o e => Heap.get?_push_of_some _ e) (J2_2.at fun o e => Heap.get?_push_of_some _ e) hp hz4 fun c o c1 c2 q1 q2 e => Heap.get?_push_of_some _ (hk c o c1 q1 q2 e)
theorem z2_next_end {z TI TO i1 i2 l1 l2 : Addr} {k : Nat} {xs1 xs2 : Array Value} {f0 : Value} {f1 : Bool} {arr : Array Value} {Q : Fin → Shared → Prop} (hh : A.handled = none) (D : ZA2 z TI TO i1 i2 l1 l2) (hz : IsZipF s.heap z TI TO f0 f1) (hf0 : OwnF f0) (hTI : IsTupA s.heap TI #[.ref i1, .ref i2]) (hTO : IsTupA s.heap TO arr) (hsz : arr.size = 2) (h1 : s.heap.IsTupleIter i1 l1 k) (h2 : s.heap.IsTupleIter i2 l2 k) (hl1 : s.heap.IsTuple l1 xs1) (hl2 : s.heap.IsTuple l2 xs2) (hx : xs1[k]? = none)
    (hE : ∀ h' e, (∀ c o, c ≠ z → c ≠ TO → c ≠ i1 → c ≠ i2 → s.heap.get? c = some o → h'.get? c = some o) → (∃ o, h'.get? e = some o ∧ o.cls = .type "StopIteration") → E (.ref e) { s with heap := h' }) :
    wpAny (model prog w) A (Builtin.«zip.__next__» ⟨[.ref z], []⟩) Q E s := by
  show wpAny _ _ (field (.ref z) 2 >>= _) _ _ _
  refine wpAny_bind (wpAny_field hz rfl (x := .bool false) rfl ?_)
  show wpAny _ _ (field (.ref z) 3 >>= _) _ _ _
  refine wpAny_bind (wpAny_field hz rfl (x := .ref TI) rfl ?_)
  refine wpAny_bind (wpAny_seqItems hTI rfl ?_)
  show wpAny _ _ (Builtin.SmallTypes.ownedTupleIsFree (.ref z) >>= _) _ _ _
  refine wpAny_bind (owned_any hz hf0 ?_ fun h₁ hz₁ hs₁ => ?_)
  · simp only [if_true]
    refine wpAny_bind (wpAny_rule ?_)
    refine wpAny_bind (wpAny_field hz rfl (x := .ref TO) rfl ?_)
    refine wpAny_bind (wpAny_setField_rec hz (by simp) fun h₀ hz₀ hs₀ => ?_)
    replace hz₀ : IsZipF h₀ z TI TO .ellipsis f1 := hz₀
    refine wpAny_bind ?_
    simp only [List.zipIdx_cons, List.zipIdx_nil, List.forIn_cons, List.forIn_nil]
    refine wpAny_bind (wpAny_bind (wpAny_onRaise ?_))
    show wpAny _ _ (Builtin.SmallTypes.nextOf (.ref i1) >>= _) _ _ _
    refine wpAny_bind (RZ.nextOf_tuple_end hh (h1.extBut hs₀.extBut D.i1z) (hl1.extBut hs₀.extBut D.l1z) hx fun h₂ e hs₂ he => ?_)
    obtain ⟨oe, hoe, hce⟩ := he
    have hz₂ : IsZipF h₂ z TI TO .ellipsis f1 := hs₂ _ _ D.i1z.symm hz₀
    have hez : e ≠ z := fun x => by subst x; rw [hz₂] at hoe; cases hoe; simp at hce
    refine wpAny_setField_rec hz₂ (by simp) fun h₃ _ hs₃ => hE h₃ e (fun c o c1 _ c3 _ x => hs₃.extBut _ _ c1 (hs₂ _ _ c3 (hs₀.extBut _ _ c1 x))) ⟨oe, hs₃.extBut _ _ hez hoe, hce⟩
  · simp only [Bool.false_eq_true, if_false]
    refine wpAny_bind ?_
    rw [← Array.forIn_toList]
    simp only [List.forIn_cons, List.forIn_nil]
    refine wpAny_bind (wpAny_bind (wpAny_holding ?_))
    show wpAny _ _ (Builtin.SmallTypes.nextOf (.ref i1) >>= _) _ _ _
    refine wpAny_bind (RZ.nextOf_tuple_end (s := { s with heap := h₁ }) hh (h1.extBut hs₁.extBut D.i1z) (hl1.extBut hs₁.extBut D.l1z) hx fun h₂ e hs₂ he => ?_)
    exact hE h₂ e (fun c o c1 _ c3 _ x => hs₂ _ _ c3 (hs₁.extBut _ _ c1 x)) he
theorem z2_pyNext_item {z TI TO i1 i2 l1 l2 : Addr} {k : Nat} {xs1 xs2 : Array Value} {f0 : Value} {f1 : Bool} {arr : Array Value} {x1 x2 : Value} {Q : Option Value → Shared → Prop} (D : ZA2 z TI TO i1 i2 l1 l2) (hz : IsZipF s.heap z TI TO f0 f1) (hf0 : OwnF f0) (hTI : IsTupA s.heap TI #[.ref i1, .ref i2]) (hTO : IsTupA s.heap TO arr) (hsz : arr.size = 2) (h1 : s.heap.IsTupleIter i1 l1 k) (h2 : s.heap.IsTupleIter i2 l2 k) (hl1 : s.heap.IsTuple l1 xs1) (hl2 : s.heap.IsTuple l2 xs2) (hx1 : xs1[k]? = some x1) (hx2 : xs2[k]? = some x2)
    (hQ : ∀ h' f0' f1' arr', OwnF f0' → IsZipF h' z TI TO f0' f1' → IsTupA h' TO arr' → arr'.size = 2 → h'.IsTupleIter i1 l1 (k + 1) → h'.IsTupleIter i2 l2 (k + 1) → IsTupA h' s.heap.objs.size #[x1, x2] → h'.objs.size = s.heap.objs.size + 1 → (∀ c o, c ≠ z → c ≠ TO → c ≠ i1 → c ≠ i2 → s.heap.get? c = some o → h'.get? c = some o) → Q (some (.ref s.heap.objs.size)) { s with heap := h' }) : wpAny (model prog w) A (pyNext (.ref z)) Q E s := by
  have hT : s.TypeIs (.ref z) "zip" := ⟨_, hz, rfl⟩
  unfold pyNext
  exact wpAny_bind (wpAny_attempt (wpAny_callSpecial?_slot (name := Str.ofString "__next__") hT F.slot_zip_next
    (wpAny_call_entry F.slot_zip_next hT F.entry_zip_next
      (z2_next_item D hz hf0 hTI hTO hsz h1 h2 hl1 hl2 hx1 hx2 fun h' b0 b1 b2 b3 b4 b5 b6 b7 b8 b9 b10 b11 => wpAny_pure (hQ h' b0 b1 b2 b3 b4 b5 b6 b7 b8 b9 b10 b11)) (F.args_zip_next_1 _))))
theorem z2_pyNext_end {z TI TO i1 i2 l1 l2 : Addr} {k : Nat} {xs1 xs2 : Array Value} {f0 : Value} {f1 : Bool} {arr : Array Value} {Q : Option Value → Shared → Prop} (hh : A.handled = none) (D : ZA2 z TI TO i1 i2 l1 l2) (hz : IsZipF s.heap z TI TO f0 f1) (hf0 : OwnF f0) (hTI : IsTupA s.heap TI #[.ref i1, .ref i2]) (hTO : IsTupA s.heap TO arr) (hsz : arr.size = 2) (h1 : s.heap.IsTupleIter i1 l1 k) (h2 : s.heap.IsTupleIter i2 l2 k) (hl1 : s.heap.IsTuple l1 xs1) (hl2 : s.heap.IsTuple l2 xs2) (hx : xs1[k]? = none)
    (hQ : ∀ h', (∀ c o, c ≠ z → c ≠ TO → c ≠ i1 → c ≠ i2 → s.heap.get? c = some o → h'.get? c = some o) → Q none { s with heap := h' }) : wpAny (model prog w) A (pyNext (.ref z)) Q E s := by
  have hT : s.TypeIs (.ref z) "zip" := ⟨_, hz, rfl⟩
  unfold pyNext
  refine wpAny_bind (wpAny_attempt (wpAny_callSpecial?_slot (name := Str.ofString "__next__") hT F.slot_zip_next
    (wpAny_call_entry F.slot_zip_next hT F.entry_zip_next (z2_next_end hh D hz hf0 hTI hTO hsz h1 h2 hl1 hl2 hx fun h' e hk he => ?_) (F.args_zip_next_1 _))))
  obtain ⟨o, ho, hc⟩ := he
  refine wpAny_bind (wpAny_isInstance (T := "StopIteration") (b := true) ⟨o, ho, hc⟩ isSubtype_stop ?_)
  exact wpAny_pure (hQ _ hk)
end
abbrev zt2H1 (h : Heap) (l1 : Addr) : Heap := h.push { cls := .type "tuple_iterator", data := .fields #[.ref l1, .int 0 0] }
abbrev zt2H2 (h : Heap) (l1 l2 : Addr) : Heap := (zt2H1 h l1).push { cls := .type "tuple_iterator", data := .fields #[.ref l2, .int 0 0] }
abbrev zt2TI (h : Heap) (l1 l2 : Addr) : Heap := (zt2H2 h l1 l2).push { cls := .type "tuple", data := .seq #[.ref h.objs.size, .ref (zt2H1 h l1).objs.size] }
abbrev zt2TO (h : Heap) (l1 l2 : Addr) : Heap := (zt2TI h l1 l2).push { cls := .type "tuple", data := .seq #[.none, .none] }
abbrev zt2Z (h : Heap) (l1 l2 : Addr) : Heap := (zt2TO h l1 l2).push { cls := .type "zip", data := .fields #[.none, .bool false, .bool false, .ref (zt2H2 h l1 l2).objs.size, .ref (zt2TI h l1 l2).objs.size] }
theorem meets_z2_new (l1 l2 : Addr) (xs1 xs2 : Array Value) :
    Meets (Builtin.«zip.__new__» ⟨[.type "zip", .ref l1, .ref l2], []⟩) (fun _ R s => s.heap.IsTuple l1 xs1 ∧ s.heap.IsTuple l2 xs2 ∧
      R (.ok (.ret (.ref (zt2TO s.heap l1 l2).objs.size))) { s with heap := zt2Z s.heap l1 l2 }) :=
  .of_wp fun prog w A R s h => by
    obtain ⟨hp, g, d, tk, os⟩ := s; obtain ⟨hl1, hl2, h⟩ := h
    have hsub := sub_zip
    have hL1 : Heap.IsTuple (Shared.heap ⟨hp, g, d, tk, os⟩) l1 xs1 := hl1
    have hL2 : Heap.IsTuple (Shared.heap ⟨(zt2H1 hp l1), g, d, tk, os⟩) l2 xs2 := Heap.IsTuple.push (hl2) _
    wp_walk using wpAny_pyIter_tuple hL1, wpAny_pyIter_tuple hL2
    exact ⟨_, rfl, h⟩
section
variable {prog : Program} {w : World} {A : Around} {E : Value → Shared → Prop} {s : Shared}
theorem call_z2 {l1 l2 : Addr} {xs1 xs2 : Array Value} {Q : Value → Shared → Prop} (hl1 : s.heap.IsTuple l1 xs1) (hl2 : s.heap.IsTuple l2 xs2)
    (h : ∀ h', IsZipF h' (s.heap.objs.size + 4) (s.heap.objs.size + 2) (s.heap.objs.size + 3) .none false → IsTupA h' (s.heap.objs.size + 2) #[.ref s.heap.objs.size, .ref (s.heap.objs.size + 1)] → IsTupA h' (s.heap.objs.size + 3) #[.none, .none] → h'.IsTupleIter s.heap.objs.size l1 0 → h'.IsTupleIter (s.heap.objs.size + 1) l2 0 → h'.objs.size = (s.heap.objs.size + 5) → (∀ c o, s.heap.get? c = some o → h'.get? c = some o) → Q (.ref (s.heap.objs.size + 4)) { s with heap := h' }) :
    wpAny (model prog w) A (call (.type "zip") [.ref l1, .ref l2]) Q E s := by
  refine callType_new F.called_zip (by decide) (F.typeCall_zip_2 _ _) (F.newCall_zip_2 _ _) (fun obj => F.args_object_init_3 obj _ _) F.entry_zip_new (meets_z2_new l1 l2 xs1 xs2) ⟨hl1, hl2, ?_⟩
  have z1 : (zt2H1 s.heap l1).objs.size = (s.heap.objs.size + 1) := Heap.size_push ..
  have z2 : (zt2H2 s.heap l1 l2).objs.size = (s.heap.objs.size + 2) := by rw [Heap.size_push, z1]
  have z3 : (zt2TI s.heap l1 l2).objs.size = (s.heap.objs.size + 3) := by rw [Heap.size_push, z2]
  have z4 : (zt2TO s.heap l1 l2).objs.size = (s.heap.objs.size + 4) := by rw [Heap.size_push, z3]
  have z5 : (zt2Z s.heap l1 l2).objs.size = (s.heap.objs.size + 5) := by rw [Heap.size_push, z4]
  have g0 : (zt2Z s.heap l1 l2).get? s.heap.objs.size = some _ := Heap.get?_push_of_some _ (Heap.get?_push_of_some _ (Heap.get?_push_of_some _ (Heap.get?_push_of_some _ (Heap.get?_push_size _ rfl))))
  have g1 : (zt2Z s.heap l1 l2).get? (zt2H1 s.heap l1).objs.size = some _ := Heap.get?_push_of_some _ (Heap.get?_push_of_some _ (Heap.get?_push_of_some _ (Heap.get?_push_size _ rfl)))
  have g2 : (zt2Z s.heap l1 l2).get? (zt2H2 s.heap l1 l2).objs.size = some _ := Heap.get?_push_of_some _ (Heap.get?_push_of_some _ (Heap.get?_push_size _ rfl))
  have g3 : (zt2Z s.heap l1 l2).get? (zt2TI s.heap l1 l2).objs.size = some _ := Heap.get?_push_of_some _ (Heap.get?_push_size _ rfl)
  have g4 : (zt2Z s.heap l1 l2).get? (zt2TO s.heap l1 l2).objs.size = some _ := Heap.get?_push_size _ rfl
  show _ ∧ _
  rw [z2, z3, z4] at g4
  rw [z1, z2] at g2
  rw [z3] at g3
  rw [z1] at g1
  rw [z4]
  exact ⟨⟨_, g4, rfl⟩, h _ g4 g2 g3 ⟨_, g0, rfl, rfl⟩ ⟨_, g1, rfl, rfl⟩ z5 fun c o x => Heap.get?_push_of_some _ (Heap.get?_push_of_some _ (Heap.get?_push_of_some _ (Heap.get?_push_of_some _ (Heap.get?_push_of_some _ (x)))))⟩
end
/-- the 2 tuples as they stand at each turn, the items in a new tuple -/
def ItS2 (K : PySem.W.Frag) (a1 a2 : Addr) : It :=
  ⟨fun i H => ∃ (xs1 xs2 : List V) (x1 x2 : V), SqT K H a1 xs1 ∧ SqT K H a2 xs2 ∧ xs1[i]? = some x1 ∧ xs2[i]? = some x2,
    fun i H v H' => ∃ T x1 x2, v = .ref T ∧ H T = none ∧ H' = upd H T (.tup [x1, x2]) ∧ (∀ ys, SqT K H a1 ys → ys[i]? = some x1) ∧ (∀ ys, SqT K H a2 ys → ys[i]? = some x2),
    fun i H => ∃ (xs1 xs2 : List V), SqT K H a1 xs1 ∧ SqT K H a2 xs2 ∧ xs1.length ≤ i⟩
theorem turn_S2 {P : Program} {w : World} {K : PySem.W.Frag} {nm : Str} {tpos : Pos} {z TI TO i1 i2 a1 a2 : Addr} (D : ZA2 z TI TO i1 i2 a1 a2) : Turn P w K (.Name nm tpos) (ItS2 K a1 a2) [z, TI, TO, i1, i2] z (fun i h => ∃ f0 f1 arr, OwnF f0 ∧ IsZipF h z TI TO f0 f1 ∧ IsTupA h TI #[.ref i1, .ref i2] ∧ IsTupA h TO arr ∧ arr.size = 2 ∧ h.IsTupleIter i1 a1 i ∧ h.IsTupleIter i2 a2 i) where
  mem := by simp
  obj := fun i h st c hc => by
    obtain ⟨f0, f1, arr, hf0, hz, hTI, hTO, hsz, ⟨o1, e1, _, d1⟩, ⟨o2, e2, _, d2⟩⟩ := st
    have e' : c = z ∨ c = TI ∨ c = TO ∨ c = i1 ∨ c = i2 := by simpa using hc
    rcases e' with q | q | q | q | q
    · rw [q]; exact ⟨_, hz, fun v q => nomatch q⟩
    · rw [q]; exact ⟨_, hTI, fun v q => nomatch q⟩
    · rw [q]; exact ⟨_, hTO, fun v q => nomatch q⟩
    · rw [q]; exact ⟨o1, e1, fun v q => by rw [d1] at q; cases q⟩
    · rw [q]; exact ⟨o2, e2, fun v q => by rw [d2] at q; cases q⟩
  keep := fun i h h' st k => by
    obtain ⟨f0, f1, arr, hf0, hz, hTI, hTO, hsz, h1, h2⟩ := st
    exact ⟨f0, f1, arr, hf0, k z (by simp) _ hz, k TI (by simp) _ hTI, k TO (by simp) _ hTO, hsz, h1.at fun o q => k i1 (by simp) o q, h2.at fun o q => k i2 (by simp) o q⟩
  item := by
    intro X hP hw hK hc i pins s σ H E I hf st hg
    subst hP hw hK
    obtain ⟨f0, f1, arr, hf0, hz, hTI, hTO, hsz, h1, h2⟩ := st
    obtain ⟨xs1, xs2, x1, x2, hq1, hq2, hx1, hx2⟩ := hg
    obtain ⟨its1, rv1, p1, _⟩ := I.tuple hq1
    obtain ⟨w1, hw1, rw1⟩ := rv1.get hx1
    obtain ⟨its2, rv2, p2, _⟩ := I.tuple hq2
    obtain ⟨w2, hw2, rw2⟩ := rv2.get hx2
    have hzl : z < s.heap.objs.size := Heap.lt_size hz
    refine z2_pyNext_item D hz hf0 hTI hTO hsz h1 h2 p1 p2 (by simpa using hw1) (by simpa using hw2) fun h' f0' f1' arr' hf0' hz' TO' hsz' h1' h2' hT hsz2 hk => ?_
    refine ⟨_, rfl, wpAny_pure ?_⟩
    have new : ObjOk X.prog X.w (upd H s.heap.objs.size (.tup [x1, x2])) h' s.heap.objs.size (.tup [x1, x2]) := ⟨by show 2 ≤ sizeLine; decide, [w1, w2], .cons rw1 (.cons rw2 (.nil)), ⟨_, hT, rfl, _, rfl⟩⟩
    have I1 : Inv X pins σ (upd H s.heap.objs.size (.tup [x1, x2])) { s with heap := h' } :=
      I.turnedNew (t' := s.toks) (ch := [z, TI, TO, i1, i2]) (fun c o hb q => hk c o (fun q' => hb (by simp [q'])) (fun q' => hb (by simp [q'])) (fun q' => hb (by simp [q'])) (fun q' => hb (by simp [q'])) q) hf (Nat.le_refl _) new
    refine ⟨.ref s.heap.objs.size, _, I1, rfl, ⟨_, x1, x2, rfl, I.hok.fresh (Nat.le_refl _), rfl, fun l hl => by rw [I.tuple_inj hl hq1]; exact hx1, fun l hl => by rw [I.tuple_inj hl hq2]; exact hx2⟩, ⟨f0', f1', arr', hf0', hz', ?_, TO', hsz', h1', h2'⟩, fun c hcm => ?_⟩
    · exact hk _ _ D.TIz D.TITO D.TIi1 D.TIi2 hTI
    · have hlt : c < s.heap.objs.size := by
        have e' : c = z ∨ c = TI ∨ c = TO ∨ c = i1 ∨ c = i2 := by simpa using hcm
        rcases e' with q | q | q | q | q
        · rw [q]; exact hzl
        · rw [q]; exact Heap.lt_size hTI
        · rw [q]; exact Heap.lt_size hTO
        · rw [q]; obtain ⟨_, e1, _⟩ := h1; exact Heap.lt_size e1
        · rw [q]; obtain ⟨_, e1, _⟩ := h2; exact Heap.lt_size e1
      rw [upd_ne (Nat.ne_of_lt hlt)]
      exact (hf c hcm).1
  done := by
    intro X hP hw hK hc i pins s σ H E I hf st hg
    subst hP hw hK
    obtain ⟨f0, f1, arr, hf0, hz, hTI, hTO, hsz, h1, h2⟩ := st
    obtain ⟨xs1, xs2, hq1, hq2, hend⟩ := hg
    obtain ⟨its1, rv1, p1, _⟩ := I.tuple hq1
    obtain ⟨its2, rv2, p2, _⟩ := I.tuple hq2
    have l1 := rv1.length
    exact z2_pyNext_end (I.ok.hd hc) D hz hf0 hTI hTO hsz h1 h2 p1 p2 (by simp; omega) fun h' hk => ⟨rfl, I.turnedL (t' := s.toks) (ch := [z, TI, TO, i1, i2]) (fun c o hb q => hk c o (fun q' => hb (by simp [q'])) (fun q' => hb (by simp [q'])) (fun q' => hb (by simp [q'])) (fun q' => hb (by simp [q'])) q) hf⟩
  self := fun A i s Q E st h => by
    obtain ⟨f0, f1, arr, hf0, hz, _⟩ := st
    exact pyIter_zipF hz h
end Hs
namespace Hs
open PySem PySem.Spec PyProof.Rows L2

/-- zip(*rows), a call by a star alone -/
theorem callWith_starT {M : Model} {A : Around} {E : Value → Shared → Prop} {s : Shared} {env : Env} {pos p : Pos} {T : String} {e : Expr} {Q : Value → Shared → Prop} (h : wpAny M A (eval e env) (fun v s₁ => PySem.W.StarOf M A E v (fun vs s₂ => wpAny M A (call (.type T) vs) Q E s₂) s₁) E s)
    (he : starEach [.Starred e p] env = [(true, eval e env)] := by rfl) : wpAny M A (callWith pos (.type T) [] (backTo pos (starEach [.Starred e p] env)) []) Q E s := by
  rw [he]
  refine PySem.W.ks_call (P := fun _ => True) rfl (fun h _ => ⟨.machine, .inr (.inl rfl), ?_⟩) (PySem.W.ks_lone (wpAny_mono h (fun v s₁ h₁ => ?_) fun _ _ x => x))
  · exact PySem.W.Looks.now
  · unfold PySem.W.StarOf at h₁ ⊢
    refine wpAny_mono h₁ (fun b s₂ h₂ => ⟨h₂.1, wpAny_mono h₂.2 (fun vs s₃ h₃ => ⟨trivial, h₃⟩) fun _ _ x => x⟩) fun _ _ x => x
theorem neA {a b : Nat} (h : a ≠ b) : (a : Addr) ≠ (b : Addr) := h

theorem vals_refs2 {a1 a2 : Addr} {us : List Value} (r : Vals [.ref a1, .ref a2] us) : us = [.ref a1, .ref a2] := by
  cases r with
  | cons q r =>
    cases q
    cases r with
    | cons q r =>
      cases q
      cases r
      rfl
theorem apart2 (I a1 a2 : Nat) (h1 : a1 < I) (h2 : a2 < I) : ZA2 (I + 4) (I + 2) (I + 3) I (I + 1) a1 a2 := by
  constructor <;> (refine neA ?_; omega)

def iZipS2 (K : PySem.W.Frag) (te : TE) : TI := fun σ H R => te σ H fun v H1 => ∃ (l a1 a2 : Addr) (xs1 xs2 : List V), v = .ref l ∧ SqL K H1 l [.ref a1, .ref a2] ∧ SqT K H1 a1 xs1 ∧ SqT K H1 a2 xs2 ∧ R (ItS2 K a1 a2) H1
theorem pi_zipS2 {X : Cx} {e : Expr} {te : TE} {p sp pos tpos : Pos} {nm : Str} (hg : Gl X "zip") (hm : X.mg "zip" = none) (he : PE X e te) (hs : starEach [.Starred e sp] X.env = [(true, eval e X.env)] := by rfl) : PI X (.Name nm tpos) (.Call (.Name "zip" p) [.Starred e sp] [] pos) (iZipS2 X.K te) := by
  refine ⟨fun pins s σ H R I h => ?_⟩
  refine Call_ (ld_blt I hg hm PyProof.Rows.boot_zip (callWith_starT (thn (he.run pins s σ H _ I h) fun v s0 ⟨y, H1, I0, ry, l, a1, a2, xs1, xs2, ey, hl, hq1, hq2, q⟩ => ?_) hs))
  subst ey
  obtain rfl : v = Value.ref l := ry
  refine StX.star_lst I0 hl fun us s1 I1 rv => ?_
  obtain rfl : us = [.ref a1, .ref a2] := vals_refs2 rv
  obtain ⟨its1, rv1, p1, _⟩ := I1.tuple hq1
  obtain ⟨o1, ho1, _⟩ := id p1
  obtain ⟨its2, rv2, p2, _⟩ := I1.tuple hq2
  obtain ⟨o2, ho2, _⟩ := id p2
  refine call_z2 (show s1.heap.IsTuple a1 its1.toArray from p1) (show s1.heap.IsTuple a2 its2.toArray from p2) fun h' hz hTI hTO h1 h2 hsz hk => pyIter_zipF hz ?_
  have I2 : Inv X pins σ H1 { s1 with heap := h' } := I1.kept (t' := s1.toks) hk
  refine ⟨s1.heap.objs.size + 4, [s1.heap.objs.size + 4, s1.heap.objs.size + 2, s1.heap.objs.size + 3, s1.heap.objs.size, s1.heap.objs.size + 1], _, _, H1, rfl, I2, turn_S2 (apart2 s1.heap.objs.size a1 a2 (Heap.lt_size ho1) (Heap.lt_size ho2)), ⟨_, _, _, .inl rfl, hz, hTI, hTO, rfl, h1, h2⟩, fun c hcm => ?_, q⟩
  have hle : s1.heap.objs.size ≤ c := by
    simp only [List.mem_cons, List.not_mem_nil, or_false] at hcm
    rcases hcm with rfl | rfl | rfl | rfl | rfl <;> first | exact Nat.le_refl _ | exact Nat.le_add_right _ _
  exact I1.fpOk hle (I1.hok.fresh hle)

end Hs
namespace Hs
open PySem PySem.Spec PyProof.Rows L2
/-! ### for a, b in zip(list, tuple) -/
section
variable {prog : Program} {w : World} {A : Around} {E : Value → Shared → Prop} {s : Shared}
theorem zm_next_item {z TI TO i1 i2 l1 l2 : Addr} {k : Nat} {xs1 xs2 : Array Value} {f0 : Value} {f1 : Bool} {arr : Array Value} {x1 x2 : Value} {Q : Value → Shared → Prop} (D : ZA2 z TI TO i1 i2 l1 l2) (hz : IsZipF s.heap z TI TO f0 f1) (hf0 : OwnF f0) (hTI : IsTupA s.heap TI #[.ref i1, .ref i2]) (hTO : IsTupA s.heap TO arr) (hsz : arr.size = 2) (h1 : s.heap.IsListIter i1 l1 k) (h2 : s.heap.IsTupleIter i2 l2 k) (hl1 : s.heap.IsList l1 xs1) (hl2 : s.heap.IsTuple l2 xs2) (hx1 : xs1[k]? = some x1) (hx2 : xs2[k]? = some x2)
    (hQ : ∀ h' f0' f1' arr', OwnF f0' → IsZipF h' z TI TO f0' f1' → IsTupA h' TO arr' → arr'.size = 2 → h'.IsListIter i1 l1 (k + 1) → h'.IsTupleIter i2 l2 (k + 1) → IsTupA h' s.heap.objs.size #[x1, x2] → h'.objs.size = s.heap.objs.size + 1 → (∀ c o, c ≠ z → c ≠ TO → c ≠ i1 → c ≠ i2 → s.heap.get? c = some o → h'.get? c = some o) → Q (.ref s.heap.objs.size) { s with heap := h' }) :
    wpAny (model prog w) A (Builtin.«zip.__next__» ⟨[.ref z], []⟩) (fun fin s' => ∃ v, fin = .done (.ret v) ∧ Q v s') E s := by
  show wpAny _ _ (field (.ref z) 2 >>= _) _ _ _
  refine wpAny_bind (wpAny_field hz rfl (x := .bool false) rfl ?_)
  show wpAny _ _ (field (.ref z) 3 >>= _) _ _ _
  refine wpAny_bind (wpAny_field hz rfl (x := .ref TI) rfl ?_)
  refine wpAny_bind (wpAny_seqItems hTI rfl ?_)
  show wpAny _ _ (Builtin.SmallTypes.ownedTupleIsFree (.ref z) >>= _) _ _ _
  refine wpAny_bind (owned_any hz hf0 ?_ fun h₁ hz₁ hs₁ => ?_)
  · simp only [if_true]
    refine wpAny_bind (wpAny_rule ?_)
    refine wpAny_bind (wpAny_field hz rfl (x := .ref TO) rfl ?_)
    refine wpAny_bind (wpAny_setField_rec hz (by simp) fun h₀ hz₀ hs₀ => ?_)
    replace hz₀ : IsZipF h₀ z TI TO .ellipsis f1 := hz₀
    have K0 : ∀ c o, c ≠ z → s.heap.get? c = some o → h₀.get? c = some o := fun c o c1 e => hs₀.extBut _ _ c1 e
    have N0 : h₀.objs.size = s.heap.objs.size := hs₀.1
    have T0 : IsTupA h₀ TO arr := K0 _ _ D.TOz hTO
    have J1_0 : h₀.IsListIter i1 l1 k := h1.at fun o e => K0 _ o D.i1z e
    have L1_0 : h₀.IsList l1 xs1 := hl1.at fun o e => K0 _ o D.l1z e
    have J2_0 : h₀.IsTupleIter i2 l2 k := h2.at fun o e => K0 _ o D.i2z e
    have L2_0 : h₀.IsTuple l2 xs2 := hl2.at' fun o e => K0 _ o D.l2z e
    refine wpAny_bind ?_
    simp only [List.zipIdx_cons, List.zipIdx_nil, List.forIn_cons, List.forIn_nil]
    refine wpAny_bind (wpAny_bind (wpAny_onRaise ?_))
    show wpAny _ _ (Builtin.SmallTypes.nextOf (.ref i1) >>= _) _ _ _
    refine wpAny_bind (wpAny_nextOf_list_item J1_0 L1_0 hx1 fun g1 m1 gs1 => wpAny_pure ?_)
    have V1 : IsTupA g1 TO (arr) := gs1.extBut _ _ D.TOi1 T0
    refine wpAny_bind (wpAny_seqItems V1 rfl ?_)
    refine wpAny_bind (upSeq V1 (by simp [hsz]) fun u1 T1 us1 => ?_)
    refine wpAny_bind (wpAny_letGo (wpAny_pure ?_))
    have J1_1 : u1.IsListIter i1 l1 (k + 1) := m1.extBut us1.extBut D.TOi1.symm
    have L1_1 : u1.IsList l1 xs1 := (L1_0.extBut gs1.extBut D.l1i1).extBut us1.extBut D.l1TO
    have J2_1 : u1.IsTupleIter i2 l2 k := (J2_0.extBut gs1.extBut D.i1i2.symm).extBut us1.extBut D.TOi2.symm
    have L2_1 : u1.IsTuple l2 xs2 := (L2_0.extBut gs1.extBut D.l2i1).extBut us1.extBut D.l2TO
    have K1 : ∀ c o, c ≠ z → c ≠ TO → c ≠ i1 → s.heap.get? c = some o → u1.get? c = some o := fun c o c1 c2 q1 e => us1.extBut _ _ c2 (gs1.extBut _ _ q1 (K0 c o c1  e))
    have Z1 : IsZipF u1 z TI TO .ellipsis f1 := us1.extBut _ _ D.TOz.symm (gs1.extBut _ _ D.i1z.symm hz₀)
    have N1 : u1.objs.size = s.heap.objs.size := by rw [us1.1, gs1.1, N0]
    refine wpAny_bind (wpAny_bind (wpAny_onRaise ?_))
    show wpAny _ _ (Builtin.SmallTypes.nextOf (.ref i2) >>= _) _ _ _
    refine wpAny_bind (RZ.nextOf_tuple_item J2_1 L2_1 hx2 fun g2 m2 gs2 => wpAny_pure ?_)
    have V2 : IsTupA g2 TO ((arr).setIfInBounds 0 x1) := gs2.extBut _ _ D.TOi2 T1
    refine wpAny_bind (wpAny_seqItems V2 rfl ?_)
    refine wpAny_bind (upSeq V2 (by simp [hsz]) fun u2 T2 us2 => ?_)
    refine wpAny_bind (wpAny_letGo (wpAny_pure ?_))
    have J1_2 : u2.IsListIter i1 l1 (k + 1) := (J1_1.extBut gs2.extBut D.i1i2).extBut us2.extBut D.TOi1.symm
    have L1_2 : u2.IsList l1 xs1 := (L1_1.extBut gs2.extBut D.l1i2).extBut us2.extBut D.l1TO
    have J2_2 : u2.IsTupleIter i2 l2 (k + 1) := m2.extBut us2.extBut D.TOi2.symm
    have L2_2 : u2.IsTuple l2 xs2 := (L2_1.extBut gs2.extBut D.l2i2).extBut us2.extBut D.l2TO
    have K2 : ∀ c o, c ≠ z → c ≠ TO → c ≠ i1 → c ≠ i2 → s.heap.get? c = some o → u2.get? c = some o := fun c o c1 c2 q1 q2 e => us2.extBut _ _ c2 (gs2.extBut _ _ q2 (K1 c o c1 c2 q1 e))
    have Z2 : IsZipF u2 z TI TO .ellipsis f1 := us2.extBut _ _ D.TOz.symm (gs2.extBut _ _ D.i2z.symm Z1)
    have N2 : u2.objs.size = s.heap.objs.size := by rw [us2.1, gs2.1, N1]
    refine wpAny_pure ?_
    refine wpAny_bind (wpAny_seqItems T2 rfl ?_)
    have ea : (((arr).setIfInBounds 0 x1).setIfInBounds 1 x2) = #[x1, x2] := set2 hsz
    rw [ea] at T2 ⊢
    refine wpAny_bind (wpAny_newTuple ?_)
    show wpAny _ _ (Builtin.SmallTypes.ownedTupleHandOut (.ref z) (.ref u2.objs.size) >>= _) _ _ _
    refine wpAny_bind ?_
    unfold Builtin.SmallTypes.ownedTupleHandOut
    have zlt : z < u2.objs.size := Heap.lt_size Z2
    have hz₆ : IsZipF (u2.push { cls := .type "tuple", data := .seq #[x1, x2] }) z TI TO .ellipsis f1 := Heap.get?_push_of_some _ Z2
    refine wpAny_bind (wpAny_setField_rec hz₆ (by simp) fun h₇ hz₇ hs₇ => ?_)
    replace hz₇ : IsZipF h₇ z TI TO (rawInt u2.objs.size) f1 := hz₇
    refine wpAny_setField_rec hz₇ (by simp) fun h₈ hz₈ hs₈ => ?_
    replace hz₈ : IsZipF h₈ z TI TO (rawInt u2.objs.size) false := hz₈
    have up : ∀ c o, c ≠ z → u2.get? c = some o → h₈.get? c = some o := fun c o c1 e => hs₈.extBut _ _ c1 (hs₇.extBut _ _ c1 (Heap.get?_push_of_some _ e))
    have hT₈ : IsTupA h₈ u2.objs.size #[x1, x2] := hs₈.extBut _ _ (Nat.ne_of_gt zlt) (hs₇.extBut _ _ (Nat.ne_of_gt zlt) (Heap.get?_push_size _ rfl))
    have hz8 : h₈.objs.size = u2.objs.size + 1 := by rw [hs₈.1, hs₇.1, Heap.size_push]
    refine wpAny_pure ⟨_, rfl, ?_⟩
    show Q (.ref u2.objs.size) _
    rw [N2] at hz₈ hT₈ hz8 ⊢
    exact hQ h₈ _ _ _ (.inr ⟨_, rfl⟩) hz₈ (up _ _ D.TOz T2) rfl (J1_2.at fun o e => up _ o D.i1z e) (J2_2.at fun o e => up _ o D.i2z e) hT₈ hz8 fun c o c1 c2 q1 q2 e => up c o c1 (K2 c o c1 c2 q1 q2 e)
  · simp only [Bool.false_eq_true, if_false]
    have K0 : ∀ c o, c ≠ z → s.heap.get? c = some o → h₁.get? c = some o := fun c o c1 e => hs₁.extBut _ _ c1 e
    have J1_0 : h₁.IsListIter i1 l1 k := h1.at fun o e => K0 _ o D.i1z e
    have L1_0 : h₁.IsList l1 xs1 := hl1.at fun o e => K0 _ o D.l1z e
    have J2_0 : h₁.IsTupleIter i2 l2 k := h2.at fun o e => K0 _ o D.i2z e
    have L2_0 : h₁.IsTuple l2 xs2 := hl2.at' fun o e => K0 _ o D.l2z e
    refine wpAny_bind ?_
    rw [← Array.forIn_toList]
    simp only [List.forIn_cons, List.forIn_nil]
    refine wpAny_bind (wpAny_bind (wpAny_holding ?_))
    show wpAny _ _ (Builtin.SmallTypes.nextOf (.ref i1) >>= _) _ _ _
    refine wpAny_bind (wpAny_nextOf_list_item (s := { s with heap := h₁ }) J1_0 L1_0 hx1 fun g1 m1 gs1 => wpAny_pure ?_)
    refine wpAny_pure ?_
    have J1_1 : g1.IsListIter i1 l1 (k + 1) := m1
    have L1_1 : g1.IsList l1 xs1 := L1_0.extBut gs1.extBut D.l1i1
    have J2_1 : g1.IsTupleIter i2 l2 k := J2_0.extBut gs1.extBut D.i1i2.symm
    have L2_1 : g1.IsTuple l2 xs2 := L2_0.extBut gs1.extBut D.l2i1
    refine wpAny_bind (wpAny_bind (wpAny_holding ?_))
    show wpAny _ _ (Builtin.SmallTypes.nextOf (.ref i2) >>= _) _ _ _
    refine wpAny_bind (RZ.nextOf_tuple_item (s := { s with heap := g1 }) J2_1 L2_1 hx2 fun g2 m2 gs2 => wpAny_pure ?_)
    refine wpAny_pure (wpAny_pure ?_)
    have J1_2 : g2.IsListIter i1 l1 (k + 1) := J1_1.extBut gs2.extBut D.i1i2
    have L1_2 : g2.IsList l1 xs1 := L1_1.extBut gs2.extBut D.l1i2
    have J2_2 : g2.IsTupleIter i2 l2 (k + 1) := m2
    have L2_2 : g2.IsTuple l2 xs2 := L2_1.extBut gs2.extBut D.l2i2
    show wpAny _ _ (newTuple [x1, x2] >>= _) _ _ _
    refine wpAny_bind (wpAny_newTuple ?_)
    have hsz' : g2.objs.size = s.heap.objs.size := by rw [gs2.1, gs1.1, hs₁.1]
    have hz3 : IsZipF g2 z TI TO f0 true := (gs2.extBut _ _ D.i2z.symm (gs1.extBut _ _ D.i1z.symm hz₁))
    have hk : ∀ c o, c ≠ z → c ≠ i1 → c ≠ i2 → s.heap.get? c = some o → g2.get? c = some o := fun c o c1 q1 q2 e => (gs2.extBut _ _ q2 (gs1.extBut _ _ q1 (K0 c o c1 e)))
    refine wpAny_pure ⟨_, rfl, ?_⟩
    show Q (.ref g2.objs.size) _
    have hp : IsTupA (g2.push { cls := .type "tuple", data := .seq #[x1, x2] }) g2.objs.size #[x1, x2] := Heap.get?_push_size _ rfl
    have hz4 : (g2.push { cls := .type "tuple", data := .seq #[x1, x2] }).objs.size = g2.objs.size + 1 := Heap.size_push ..
    rw [hsz'] at hp hz4 ⊢
    exact hQ _ _ _ _ hf0 (Heap.get?_push_of_some _ hz3) (Heap.get?_push_of_some _ (hk _ _ D.TOz D.TOi1 D.TOi2 hTO)) hsz (J1_2.at fun o e => Heap.get?_push_of_some _ e) (J2_2.at fun o e => Heap.get?_push_of_some _ e) hp hz4 fun c o c1 c2 q1 q2 e => Heap.get?_push_of_some _ (hk c o c1 q1 q2 e)
theorem zm_next_end {z TI TO i1 i2 l1 l2 : Addr} {k : Nat} {xs1 xs2 : Array Value} {f0 : Value} {f1 : Bool} {arr : Array Value} {Q : Fin → Shared → Prop} (hh : A.handled = none) (D : ZA2 z TI TO i1 i2 l1 l2) (hz : IsZipF s.heap z TI TO f0 f1) (hf0 : OwnF f0) (hTI : IsTupA s.heap TI #[.ref i1, .ref i2]) (hTO : IsTupA s.heap TO arr) (hsz : arr.size = 2) (h1 : s.heap.IsListIter i1 l1 k) (h2 : s.heap.IsTupleIter i2 l2 k) (hl1 : s.heap.IsList l1 xs1) (hl2 : s.heap.IsTuple l2 xs2) (hx : xs1[k]? = none)
    (hE : ∀ h' e, (∀ c o, c ≠ z → c ≠ TO → c ≠ i1 → c ≠ i2 → s.heap.get? c = some o → h'.get? c = some o) → (∃ o, h'.get? e = some o ∧ o.cls = .type "StopIteration") → E (.ref e) { s with heap := h' }) :
    wpAny (model prog w) A (Builtin.«zip.__next__» ⟨[.ref z], []⟩) Q E s := by
  show wpAny _ _ (field (.ref z) 2 >>= _) _ _ _
  refine wpAny_bind (wpAny_field hz rfl (x := .bool false) rfl ?_)
  show wpAny _ _ (field (.ref z) 3 >>= _) _ _ _
  refine wpAny_bind (wpAny_field hz rfl (x := .ref TI) rfl ?_)
  refine wpAny_bind (wpAny_seqItems hTI rfl ?_)
  show wpAny _ _ (Builtin.SmallTypes.ownedTupleIsFree (.ref z) >>= _) _ _ _
  refine wpAny_bind (owned_any hz hf0 ?_ fun h₁ hz₁ hs₁ => ?_)
  · simp only [if_true]
    refine wpAny_bind (wpAny_rule ?_)
    refine wpAny_bind (wpAny_field hz rfl (x := .ref TO) rfl ?_)
    refine wpAny_bind (wpAny_setField_rec hz (by simp) fun h₀ hz₀ hs₀ => ?_)
    replace hz₀ : IsZipF h₀ z TI TO .ellipsis f1 := hz₀
    refine wpAny_bind ?_
    simp only [List.zipIdx_cons, List.zipIdx_nil, List.forIn_cons, List.forIn_nil]
    refine wpAny_bind (wpAny_bind (wpAny_onRaise ?_))
    show wpAny _ _ (Builtin.SmallTypes.nextOf (.ref i1) >>= _) _ _ _
    refine wpAny_bind (wpAny_nextOf_list_end hh (h1.extBut hs₀.extBut D.i1z) (hl1.extBut hs₀.extBut D.l1z) hx fun h₂ e hs₂ he => ?_)
    obtain ⟨oe, hoe, hce⟩ := he
    have hz₂ : IsZipF h₂ z TI TO .ellipsis f1 := hs₂ _ _ D.i1z.symm hz₀
    have hez : e ≠ z := fun x => by subst x; rw [hz₂] at hoe; cases hoe; simp at hce
    refine wpAny_setField_rec hz₂ (by simp) fun h₃ _ hs₃ => hE h₃ e (fun c o c1 _ c3 _ x => hs₃.extBut _ _ c1 (hs₂ _ _ c3 (hs₀.extBut _ _ c1 x))) ⟨oe, hs₃.extBut _ _ hez hoe, hce⟩
  · simp only [Bool.false_eq_true, if_false]
    refine wpAny_bind ?_
    rw [← Array.forIn_toList]
    simp only [List.forIn_cons, List.forIn_nil]
    refine wpAny_bind (wpAny_bind (wpAny_holding ?_))
    show wpAny _ _ (Builtin.SmallTypes.nextOf (.ref i1) >>= _) _ _ _
    refine wpAny_bind (wpAny_nextOf_list_end (s := { s with heap := h₁ }) hh (h1.extBut hs₁.extBut D.i1z) (hl1.extBut hs₁.extBut D.l1z) hx fun h₂ e hs₂ he => ?_)
    exact hE h₂ e (fun c o c1 _ c3 _ x => hs₂ _ _ c3 (hs₁.extBut _ _ c1 x)) he
theorem zm_pyNext_item {z TI TO i1 i2 l1 l2 : Addr} {k : Nat} {xs1 xs2 : Array Value} {f0 : Value} {f1 : Bool} {arr : Array Value} {x1 x2 : Value} {Q : Option Value → Shared → Prop} (D : ZA2 z TI TO i1 i2 l1 l2) (hz : IsZipF s.heap z TI TO f0 f1) (hf0 : OwnF f0) (hTI : IsTupA s.heap TI #[.ref i1, .ref i2]) (hTO : IsTupA s.heap TO arr) (hsz : arr.size = 2) (h1 : s.heap.IsListIter i1 l1 k) (h2 : s.heap.IsTupleIter i2 l2 k) (hl1 : s.heap.IsList l1 xs1) (hl2 : s.heap.IsTuple l2 xs2) (hx1 : xs1[k]? = some x1) (hx2 : xs2[k]? = some x2)
    (hQ : ∀ h' f0' f1' arr', OwnF f0' → IsZipF h' z TI TO f0' f1' → IsTupA h' TO arr' → arr'.size = 2 → h'.IsListIter i1 l1 (k + 1) → h'.IsTupleIter i2 l2 (k + 1) → IsTupA h' s.heap.objs.size #[x1, x2] → h'.objs.size = s.heap.objs.size + 1 → (∀ c o, c ≠ z → c ≠ TO → c ≠ i1 → c ≠ i2 → s.heap.get? c = some o → h'.get? c = some o) → Q (some (.ref s.heap.objs.size)) { s with heap := h' }) : wpAny (model prog w) A (pyNext (.ref z)) Q E s := by
  have hT : s.TypeIs (.ref z) "zip" := ⟨_, hz, rfl⟩
  unfold pyNext
  exact wpAny_bind (wpAny_attempt (wpAny_callSpecial?_slot (name := Str.ofString "__next__") hT F.slot_zip_next
    (wpAny_call_entry F.slot_zip_next hT F.entry_zip_next
      (zm_next_item D hz hf0 hTI hTO hsz h1 h2 hl1 hl2 hx1 hx2 fun h' b0 b1 b2 b3 b4 b5 b6 b7 b8 b9 b10 b11 => wpAny_pure (hQ h' b0 b1 b2 b3 b4 b5 b6 b7 b8 b9 b10 b11)) (F.args_zip_next_1 _))))
theorem zm_pyNext_end {z TI TO i1 i2 l1 l2 : Addr} {k : Nat} {xs1 xs2 : Array Value} {f0 : Value} {f1 : Bool} {arr : Array Value} {Q : Option Value → Shared → Prop} (hh : A.handled = none) (D : ZA2 z TI TO i1 i2 l1 l2) (hz : IsZipF s.heap z TI TO f0 f1) (hf0 : OwnF f0) (hTI : IsTupA s.heap TI #[.ref i1, .ref i2]) (hTO : IsTupA s.heap TO arr) (hsz : arr.size = 2) (h1 : s.heap.IsListIter i1 l1 k) (h2 : s.heap.IsTupleIter i2 l2 k) (hl1 : s.heap.IsList l1 xs1) (hl2 : s.heap.IsTuple l2 xs2) (hx : xs1[k]? = none)
    (hQ : ∀ h', (∀ c o, c ≠ z → c ≠ TO → c ≠ i1 → c ≠ i2 → s.heap.get? c = some o → h'.get? c = some o) → Q none { s with heap := h' }) : wpAny (model prog w) A (pyNext (.ref z)) Q E s := by
  have hT : s.TypeIs (.ref z) "zip" := ⟨_, hz, rfl⟩
  unfold pyNext
  refine wpAny_bind (wpAny_attempt (wpAny_callSpecial?_slot (name := Str.ofString "__next__") hT F.slot_zip_next
    (wpAny_call_entry F.slot_zip_next hT F.entry_zip_next (zm_next_end hh D hz hf0 hTI hTO hsz h1 h2 hl1 hl2 hx fun h' e hk he => ?_) (F.args_zip_next_1 _))))
  obtain ⟨o, ho, hc⟩ := he
  refine wpAny_bind (wpAny_isInstance (T := "StopIteration") (b := true) ⟨o, ho, hc⟩ isSubtype_stop ?_)
  exact wpAny_pure (hQ _ hk)
end
abbrev ztmH1 (h : Heap) (l1 : Addr) : Heap := h.push { cls := .type "list_iterator", data := .fields #[.ref l1, .int 0 0] }
abbrev ztmH2 (h : Heap) (l1 l2 : Addr) : Heap := (ztmH1 h l1).push { cls := .type "tuple_iterator", data := .fields #[.ref l2, .int 0 0] }
abbrev ztmTI (h : Heap) (l1 l2 : Addr) : Heap := (ztmH2 h l1 l2).push { cls := .type "tuple", data := .seq #[.ref h.objs.size, .ref (ztmH1 h l1).objs.size] }
abbrev ztmTO (h : Heap) (l1 l2 : Addr) : Heap := (ztmTI h l1 l2).push { cls := .type "tuple", data := .seq #[.none, .none] }
abbrev ztmZ (h : Heap) (l1 l2 : Addr) : Heap := (ztmTO h l1 l2).push { cls := .type "zip", data := .fields #[.none, .bool false, .bool false, .ref (ztmH2 h l1 l2).objs.size, .ref (ztmTI h l1 l2).objs.size] }
theorem meets_zm_new (l1 l2 : Addr) (xs1 xs2 : Array Value) :
    Meets (Builtin.«zip.__new__» ⟨[.type "zip", .ref l1, .ref l2], []⟩) (fun _ R s => s.heap.IsList l1 xs1 ∧ s.heap.IsTuple l2 xs2 ∧
      R (.ok (.ret (.ref (ztmTO s.heap l1 l2).objs.size))) { s with heap := ztmZ s.heap l1 l2 }) :=
  .of_wp fun prog w A R s h => by
    obtain ⟨hp, g, d, tk, os⟩ := s; obtain ⟨hl1, hl2, h⟩ := h
    have hsub := sub_zip
    have hL1 : Heap.IsList (Shared.heap ⟨hp, g, d, tk, os⟩) l1 xs1 := hl1
    have hL2 : Heap.IsTuple (Shared.heap ⟨(ztmH1 hp l1), g, d, tk, os⟩) l2 xs2 := Heap.IsTuple.push (hl2) _
    wp_walk using wpAny_pyIter_list hL1, wpAny_pyIter_tuple hL2
    exact ⟨_, rfl, h⟩
section
variable {prog : Program} {w : World} {A : Around} {E : Value → Shared → Prop} {s : Shared}
theorem call_zm {l1 l2 : Addr} {xs1 xs2 : Array Value} {Q : Value → Shared → Prop} (hl1 : s.heap.IsList l1 xs1) (hl2 : s.heap.IsTuple l2 xs2)
    (h : ∀ h', IsZipF h' (s.heap.objs.size + 4) (s.heap.objs.size + 2) (s.heap.objs.size + 3) .none false → IsTupA h' (s.heap.objs.size + 2) #[.ref s.heap.objs.size, .ref (s.heap.objs.size + 1)] → IsTupA h' (s.heap.objs.size + 3) #[.none, .none] → h'.IsListIter s.heap.objs.size l1 0 → h'.IsTupleIter (s.heap.objs.size + 1) l2 0 → h'.objs.size = (s.heap.objs.size + 5) → (∀ c o, s.heap.get? c = some o → h'.get? c = some o) → Q (.ref (s.heap.objs.size + 4)) { s with heap := h' }) :
    wpAny (model prog w) A (call (.type "zip") [.ref l1, .ref l2]) Q E s := by
  refine callType_new F.called_zip (by decide) (F.typeCall_zip_2 _ _) (F.newCall_zip_2 _ _) (fun obj => F.args_object_init_3 obj _ _) F.entry_zip_new (meets_zm_new l1 l2 xs1 xs2) ⟨hl1, hl2, ?_⟩
  have z1 : (ztmH1 s.heap l1).objs.size = (s.heap.objs.size + 1) := Heap.size_push ..
  have z2 : (ztmH2 s.heap l1 l2).objs.size = (s.heap.objs.size + 2) := by rw [Heap.size_push, z1]
  have z3 : (ztmTI s.heap l1 l2).objs.size = (s.heap.objs.size + 3) := by rw [Heap.size_push, z2]
  have z4 : (ztmTO s.heap l1 l2).objs.size = (s.heap.objs.size + 4) := by rw [Heap.size_push, z3]
  have z5 : (ztmZ s.heap l1 l2).objs.size = (s.heap.objs.size + 5) := by rw [Heap.size_push, z4]
  have g0 : (ztmZ s.heap l1 l2).get? s.heap.objs.size = some _ := Heap.get?_push_of_some _ (Heap.get?_push_of_some _ (Heap.get?_push_of_some _ (Heap.get?_push_of_some _ (Heap.get?_push_size _ rfl))))
  have g1 : (ztmZ s.heap l1 l2).get? (ztmH1 s.heap l1).objs.size = some _ := Heap.get?_push_of_some _ (Heap.get?_push_of_some _ (Heap.get?_push_of_some _ (Heap.get?_push_size _ rfl)))
  have g2 : (ztmZ s.heap l1 l2).get? (ztmH2 s.heap l1 l2).objs.size = some _ := Heap.get?_push_of_some _ (Heap.get?_push_of_some _ (Heap.get?_push_size _ rfl))
  have g3 : (ztmZ s.heap l1 l2).get? (ztmTI s.heap l1 l2).objs.size = some _ := Heap.get?_push_of_some _ (Heap.get?_push_size _ rfl)
  have g4 : (ztmZ s.heap l1 l2).get? (ztmTO s.heap l1 l2).objs.size = some _ := Heap.get?_push_size _ rfl
  show _ ∧ _
  rw [z2, z3, z4] at g4
  rw [z1, z2] at g2
  rw [z3] at g3
  rw [z1] at g1
  rw [z4]
  exact ⟨⟨_, g4, rfl⟩, h _ g4 g2 g3 ⟨_, g0, rfl, rfl⟩ ⟨_, g1, rfl, rfl⟩ z5 fun c o x => Heap.get?_push_of_some _ (Heap.get?_push_of_some _ (Heap.get?_push_of_some _ (Heap.get?_push_of_some _ (Heap.get?_push_of_some _ (x)))))⟩
end
theorem letgo_any {prog : Program} {w : World} {A : Around} {E : Value → Shared → Prop} {s : Shared} {elts : List Expr} {kk : Nat} {pos : Pos} {z TI TO T : Addr} {f0 : Value} {f1 : Bool} {Q : Unit → Shared → Prop} (hz : IsZipF s.heap z TI TO f0 f1) (hf : OwnF f0)
    (hQ : ∀ h' f', OwnF f' → IsZipF h' z TI TO f' f1 → Heap.SameBut z s.heap h' → Q () { s with heap := h' }) : wpAny (model prog w) A (letOwnedTupleGo (.Tuple elts kk pos) (.ref z) (.ref T)) Q E s := by
  unfold letOwnedTupleGo
  refine wpAny_bind (wpAny_load hz ?_)
  by_cases hc : (["enumerate", "zip", "dict_itemiterator", "dict_reverseitemiterator", "odict_iterator", "itertools.zip_longest", "itertools.pairwise"].contains "zip" && (#[f0, .bool f1, .bool false, .ref TI, .ref TO] : Array Value)[0]? == some (rawInt T)) = true
  · refine PySem.W.KFB.if_so hc ?_
    refine wpAny_bind (wpAny_rule ?_)
    show wpAny _ _ (setField (.ref z) 0 .none) Q E s
    exact wpAny_setField_rec hz (by simp) fun h' hz' hs' => hQ h' .none (.inl rfl) hz' hs'
  · refine PySem.W.KFB.if_not (Bool.eq_false_iff.mpr hc) ?_
    exact wpAny_pure (hQ s.heap f0 hf hz ⟨rfl, fun _ _ => rfl⟩)
/-- the list and the tuple as they stand at each turn, the items in a new tuple -/
def ItSM (K : PySem.W.Frag) (a1 a2 : Addr) : It :=
  ⟨fun i H => ∃ (xs1 xs2 : List V) (x1 x2 : V), SqL K H a1 xs1 ∧ SqT K H a2 xs2 ∧ xs1[i]? = some x1 ∧ xs2[i]? = some x2,
    fun i H v H' => ∃ T x1 x2, v = .ref T ∧ H T = none ∧ H' = upd H T (.tup [x1, x2]) ∧ (∀ ys, SqL K H a1 ys → ys[i]? = some x1) ∧ (∀ ys, SqT K H a2 ys → ys[i]? = some x2),
    fun i H => ∃ (xs1 xs2 : List V), SqL K H a1 xs1 ∧ SqT K H a2 xs2 ∧ xs1.length ≤ i⟩
theorem turn_SM {P : Program} {w : World} {K : PySem.W.Frag} {elts : List Expr} {kk : Nat} {tpos : Pos} {z TI TO i1 i2 a1 a2 : Addr} (D : ZA2 z TI TO i1 i2 a1 a2) : Turn P w K (.Tuple elts kk tpos) (ItSM K a1 a2) [z, TI, TO, i1, i2] z (fun i h => ∃ f0 f1 arr, OwnF f0 ∧ IsZipF h z TI TO f0 f1 ∧ IsTupA h TI #[.ref i1, .ref i2] ∧ IsTupA h TO arr ∧ arr.size = 2 ∧ h.IsListIter i1 a1 i ∧ h.IsTupleIter i2 a2 i) where
  mem := by simp
  obj := fun i h st c hc => by
    obtain ⟨f0, f1, arr, hf0, hz, hTI, hTO, hsz, ⟨o1, e1, _, d1⟩, ⟨o2, e2, _, d2⟩⟩ := st
    have e' : c = z ∨ c = TI ∨ c = TO ∨ c = i1 ∨ c = i2 := by simpa using hc
    rcases e' with q | q | q | q | q
    · rw [q]; exact ⟨_, hz, fun v q => nomatch q⟩
    · rw [q]; exact ⟨_, hTI, fun v q => nomatch q⟩
    · rw [q]; exact ⟨_, hTO, fun v q => nomatch q⟩
    · rw [q]; exact ⟨o1, e1, fun v q => by rw [d1] at q; cases q⟩
    · rw [q]; exact ⟨o2, e2, fun v q => by rw [d2] at q; cases q⟩
  keep := fun i h h' st k => by
    obtain ⟨f0, f1, arr, hf0, hz, hTI, hTO, hsz, h1, h2⟩ := st
    exact ⟨f0, f1, arr, hf0, k z (by simp) _ hz, k TI (by simp) _ hTI, k TO (by simp) _ hTO, hsz, h1.at fun o q => k i1 (by simp) o q, h2.at fun o q => k i2 (by simp) o q⟩
  item := by
    intro X hP hw hK hc i pins s σ H E I hf st hg
    subst hP hw hK
    obtain ⟨f0, f1, arr, hf0, hz, hTI, hTO, hsz, h1, h2⟩ := st
    obtain ⟨xs1, xs2, x1, x2, hq1, hq2, hx1, hx2⟩ := hg
    obtain ⟨its1, rv1, p1, _⟩ := I.list hq1
    obtain ⟨w1, hw1, rw1⟩ := rv1.get hx1
    obtain ⟨its2, rv2, p2, _⟩ := I.tuple hq2
    obtain ⟨w2, hw2, rw2⟩ := rv2.get hx2
    have hzl : z < s.heap.objs.size := Heap.lt_size hz
    refine zm_pyNext_item D hz hf0 hTI hTO hsz h1 h2 p1.isList p2 (by simpa using hw1) (by simpa using hw2) fun h3 f3 f1' arr' hf3 hz3 TO3 hsz' h13 h23 hT3 hsz2 hk3 => ?_
    refine ⟨_, rfl, letgo_any (s := { s with heap := h3 }) hz3 hf3 fun h' f0' hf0' hz' sb => ?_⟩
    have TO' : IsTupA h' TO arr' := (sb.2 _ D.TOz).trans TO3
    have h1' := h13.at fun o q => (sb.2 _ D.i1z).trans q
    have h2' := h23.at fun o q => (sb.2 _ D.i2z).trans q
    have hT : IsTupA h' s.heap.objs.size _ := (sb.2 _ (Nat.ne_of_gt hzl)).trans hT3
    have hk : ∀ c o, c ≠ z → c ≠ TO → c ≠ i1 → c ≠ i2 → s.heap.get? c = some o → h'.get? c = some o := fun c o c1 c2 c3 c4 e => (sb.2 _ c1).trans (hk3 c o c1 c2 c3 c4 e)
    have new : ObjOk X.prog X.w (upd H s.heap.objs.size (.tup [x1, x2])) h' s.heap.objs.size (.tup [x1, x2]) := ⟨by show 2 ≤ sizeLine; decide, [w1, w2], .cons rw1 (.cons rw2 (.nil)), ⟨_, hT, rfl, _, rfl⟩⟩
    have I1 : Inv X pins σ (upd H s.heap.objs.size (.tup [x1, x2])) { s with heap := h' } :=
      I.turnedNew (t' := s.toks) (ch := [z, TI, TO, i1, i2]) (fun c o hb q => hk c o (fun q' => hb (by simp [q'])) (fun q' => hb (by simp [q'])) (fun q' => hb (by simp [q'])) (fun q' => hb (by simp [q'])) q) hf (Nat.le_refl _) new
    refine ⟨.ref s.heap.objs.size, _, I1, rfl, ⟨_, x1, x2, rfl, I.hok.fresh (Nat.le_refl _), rfl, fun l hl => by rw [I.list_inj hl hq1]; exact hx1, fun l hl => by rw [I.tuple_inj hl hq2]; exact hx2⟩, ⟨f0', f1', arr', hf0', hz', ?_, TO', hsz', h1', h2'⟩, fun c hcm => ?_⟩
    · exact hk _ _ D.TIz D.TITO D.TIi1 D.TIi2 hTI
    · have hlt : c < s.heap.objs.size := by
        have e' : c = z ∨ c = TI ∨ c = TO ∨ c = i1 ∨ c = i2 := by simpa using hcm
        rcases e' with q | q | q | q | q
        · rw [q]; exact hzl
        · rw [q]; exact Heap.lt_size hTI
        · rw [q]; exact Heap.lt_size hTO
        · rw [q]; obtain ⟨_, e1, _⟩ := h1; exact Heap.lt_size e1
        · rw [q]; obtain ⟨_, e1, _⟩ := h2; exact Heap.lt_size e1
      rw [upd_ne (Nat.ne_of_lt hlt)]
      exact (hf c hcm).1
  done := by
    intro X hP hw hK hc i pins s σ H E I hf st hg
    subst hP hw hK
    obtain ⟨f0, f1, arr, hf0, hz, hTI, hTO, hsz, h1, h2⟩ := st
    obtain ⟨xs1, xs2, hq1, hq2, hend⟩ := hg
    obtain ⟨its1, rv1, p1, _⟩ := I.list hq1
    obtain ⟨its2, rv2, p2, _⟩ := I.tuple hq2
    have l1 := rv1.length
    exact zm_pyNext_end (I.ok.hd hc) D hz hf0 hTI hTO hsz h1 h2 p1.isList p2 (by simp; omega) fun h' hk => ⟨rfl, I.turnedL (t' := s.toks) (ch := [z, TI, TO, i1, i2]) (fun c o hb q => hk c o (fun q' => hb (by simp [q'])) (fun q' => hb (by simp [q'])) (fun q' => hb (by simp [q'])) (fun q' => hb (by simp [q'])) q) hf⟩
  self := fun A i s Q E st h => by
    obtain ⟨f0, f1, arr, hf0, hz, _⟩ := st
    exact pyIter_zipF hz h

theorem apartM (I a1 a2 : Nat) (h1 : a1 < I) (h2 : a2 < I) : ZA2 (I + 4) (I + 2) (I + 3) I (I + 1) a1 a2 := by
  constructor <;> (refine neA ?_; omega)
def iZipM (K : PySem.W.Frag) (ta : TA) : TI := fun σ H R => ta σ H fun vs H1 => ∃ (a b : Addr) (xs ys : List V), vs = [.ref a, .ref b] ∧ SqL K H1 a xs ∧ SqT K H1 b ys ∧ R (ItSM K a b) H1
theorem pi_zipM {X : Cx} {e e2 : Expr} {ta : TA} {p pos tpos : Pos} {elts : List Expr} {kk : Nat} (hg : Gl X "zip") (hm : X.mg "zip" = none) (ha : PA X [e, e2] ta)
    (hs : starEach [e, e2] X.env = (false, eval e X.env) :: starEach [e2] X.env := by rfl) (hpl : (backTo pos (starEach [e2] X.env)).any (·.1) = false := by rfl) :
    PI X (.Tuple elts kk tpos) (.Call (.Name "zip" p) [e, e2] [] pos) (iZipM X.K ta) := by
  refine ⟨fun pins s σ H R I h => ?_⟩
  refine Call_ (ld_blt I hg hm PyProof.Rows.boot_zip (PyProof.Rows.callWith_type1 (thn (ha.run pos pins s σ H _ I h) fun us s1 ⟨vs, H1, I1, r1, a, b, xs, ys, ev, hq1, hq2, q⟩ => ?_) hs hpl))
  subst ev
  obtain rfl : us = [.ref a, .ref b] := vals_refs2 r1
  obtain ⟨its1, rv1, p1, _⟩ := I1.list hq1
  obtain ⟨its2, rv2, p2, _⟩ := I1.tuple hq2
  obtain ⟨o2, ho2, _⟩ := id p2
  refine call_zm p1.isList (show s1.heap.IsTuple b its2.toArray from p2) fun h' hz hTI hTO h1 h2 hsz hk => pyIter_zipF hz ?_
  have I2 : Inv X pins σ H1 { s1 with heap := h' } := I1.kept (t' := s1.toks) hk
  refine ⟨s1.heap.objs.size + 4, [s1.heap.objs.size + 4, s1.heap.objs.size + 2, s1.heap.objs.size + 3, s1.heap.objs.size, s1.heap.objs.size + 1], _, _, H1, rfl, I2, turn_SM (apartM s1.heap.objs.size a b p1.lt (Heap.lt_size ho2)), ⟨_, _, _, .inl rfl, hz, hTI, hTO, rfl, h1, h2⟩, fun c hcm => ?_, q⟩
  have hle : s1.heap.objs.size ≤ c := by
    simp only [List.mem_cons, List.not_mem_nil, or_false] at hcm
    rcases hcm with rfl | rfl | rfl | rfl | rfl <;> first | exact Nat.le_refl _ | exact Nat.le_add_right _ _
  exact I1.fpOk hle (I1.hok.fresh hle)
end Hs
namespace Hs
/-! ### rows of counts (lists turned round: the last count first) -/
def rows1 (rs : List (List Int)) (c : Int) : List (List Int) := rs.flatMap fun r => (List.range c.toNat).map fun i : Nat => r ++ [(i : Int)]
def RR : List Int → List (List Int)
  | [] => [[]]
  | c :: l => rows1 (RR l) c
def PR : List Int → Int
  | [] => 1
  | c :: l => PR l * c
def digs : List Int → Int → List Int
  | [], _ => []
  | c :: l, n => n % c :: digs l (n / c)
def rowR (l : List Int) (n : Int) : List Int := (digs l n).reverse
def restI : List Int → Int → Nat → Int
  | _, n, 0 => n
  | [], n, _ + 1 => n
  | c :: l, n, i + 1 => restI l (n / c) i
def nums (cs r : List Int) : Nat → Int
  | 0 => 0
  | i + 1 => nums cs r i * cs.getD i 0 + r.getD i 0
def Cnt (cs : List Int) : Prop := cs.length ≤ 5 ∧ ∀ c ∈ cs, 1 ≤ c ∧ c ≤ 6
theorem Cnt.rev {cs : List Int} (h : Cnt cs) : Cnt cs.reverse := ⟨by rw [List.length_reverse]; exact h.1, fun c hc => h.2 c (List.mem_reverse.mp hc)⟩
theorem take_rev {cs : List Int} {i : Nat} {c : Int} (h : cs[i]? = some c) : (cs.take (i + 1)).reverse = c :: (cs.take i).reverse := by
  rw [List.take_add_one, h, List.reverse_append] <;> rfl
theorem PR_bd : ∀ {l : List Int}, (∀ c ∈ l, 1 ≤ c ∧ c ≤ 6) → 1 ≤ PR l ∧ PR l ≤ 6 ^ l.length
  | [], _ => ⟨Int.le_refl _, Int.le_refl _⟩
  | c :: l, h => by
    obtain ⟨h1, h2⟩ := PR_bd (l := l) fun x hx => h x (List.mem_cons_of_mem _ hx)
    obtain ⟨c1, c2⟩ := h c (List.mem_cons_self ..)
    constructor
    · show 1 ≤ PR l * c
      have := Int.mul_le_mul h1 c1 (by omega) (by omega)
      omega
    · show PR l * c ≤ 6 ^ (l.length + 1)
      rw [Int.pow_succ]
      exact Int.mul_le_mul h2 c2 (by omega) (by omega)
theorem six_le {n : Nat} (h : n ≤ 5) : (6 : Int) ^ n ≤ 7776 := by
  have : n = 0 ∨ n = 1 ∨ n = 2 ∨ n = 3 ∨ n = 4 ∨ n = 5 := by omega
  rcases this with rfl | rfl | rfl | rfl | rfl | rfl <;> decide
theorem PR_small {l : List Int} (h : Cnt l) : 1 ≤ PR l ∧ PR l ≤ 7776 := by
  obtain ⟨h1, h2⟩ := PR_bd h.2
  have := six_le h.1
  exact ⟨h1, by omega⟩
theorem Cnt.take {cs : List Int} (h : Cnt cs) (i : Nat) : Cnt (cs.take i).reverse := by
  refine Cnt.rev ⟨?_, fun c hc => h.2 c (List.mem_of_mem_take hc)⟩
  rw [List.length_take]
  have := h.1
  omega
theorem rows1_len {rs : List (List Int)} {c : Int} : (rows1 rs c).length = rs.length * c.toNat := by
  induction rs with
  | nil => simp [rows1]
  | cons r rs ih =>
    have e : rows1 (r :: rs) c = ((List.range c.toNat).map fun i : Nat => r ++ [(i : Int)]) ++ rows1 rs c := by simp [rows1]
    rw [e, List.length_append, ih, List.length_map, List.length_range, List.length_cons, Nat.succ_mul]
    omega
theorem rows1_at {rs : List (List Int)} {c : Int} (hc : 1 ≤ c) : ∀ {n : Nat}, (rows1 rs c)[n]? = (rs[n / c.toNat]?).map fun r => r ++ [((n % c.toNat : Nat) : Int)] := by
  have hk : 0 < c.toNat := by omega
  generalize hkk : c.toNat = k at hk
  induction rs with
  | nil => intro n; simp [rows1]
  | cons r rs ih =>
    intro n
    have e : rows1 (r :: rs) c = ((List.range c.toNat).map fun i : Nat => r ++ [(i : Int)]) ++ rows1 rs c := by simp [rows1]
    rw [e, hkk]
    by_cases h : n < k
    · rw [List.getElem?_append_left (by simpa using h), Nat.div_eq_of_lt h, Nat.mod_eq_of_lt h]
      simp [h]
    · have h1 : n / k = (n - k) / k + 1 := by rw [Nat.div_eq_sub_div hk (by omega)]
      have h2 : n % k = (n - k) % k := by rw [Nat.mod_eq_sub_mod (by omega)]
      rw [List.getElem?_append_right (by simpa using (by omega : k ≤ n)), h1, h2]
      simp only [List.length_map, List.length_range, List.getElem?_cons_succ]
      exact ih
theorem RR_len : ∀ {l : List Int}, (∀ c ∈ l, 1 ≤ c ∧ c ≤ 6) → ((RR l).length : Int) = PR l
  | [], _ => rfl
  | c :: l, h => by
    have ih := RR_len (l := l) fun x hx => h x (List.mem_cons_of_mem _ hx)
    obtain ⟨c1, c2⟩ := h c (List.mem_cons_self ..)
    show ((rows1 (RR l) c).length : Int) = PR l * c
    rw [rows1_len, Int.natCast_mul, ih, Int.toNat_of_nonneg (by omega)]
theorem RR_at : ∀ {l : List Int}, (∀ c ∈ l, 1 ≤ c ∧ c ≤ 6) → ∀ {n : Nat}, (n : Int) < PR l → (RR l)[n]? = some (rowR l n)
  | [], _, n, hn => by
    have : n = 0 := by
      have : (n : Int) < 1 := hn
      omega
    subst this
    rfl
  | c :: l, h, n, hn => by
    obtain ⟨c1, c2⟩ := h c (List.mem_cons_self ..)
    have hl := fun x hx => h x (List.mem_cons_of_mem _ hx)
    have ek : ((c.toNat : Nat) : Int) = c := Int.toNat_of_nonneg (by omega)
    have hq : ((n / c.toNat : Nat) : Int) = (n : Int) / c := by rw [Int.natCast_ediv, ek]
    have hm : ((n % c.toNat : Nat) : Int) = (n : Int) % c := by rw [Int.natCast_emod, ek]
    have hn' : ((n / c.toNat : Nat) : Int) < PR l := by
      rw [hq]
      exact Int.ediv_lt_of_lt_mul (by omega) hn
    show (rows1 (RR l) c)[n]? = some (digs (c :: l) n).reverse
    rw [rows1_at c1, RR_at (l := l) hl hn', hm]
    show some (rowR l ((n / c.toNat : Nat) : Int) ++ [(n : Int) % c]) = some ((n : Int) % c :: digs l ((n : Int) / c)).reverse
    rw [hq, List.reverse_cons] <;> rfl
theorem digs_len : ∀ {l : List Int} {n : Int}, (digs l n).length = l.length
  | [], _ => rfl
  | c :: l, n => by
    show (digs l (n / c)).length + 1 = l.length + 1
    rw [digs_len]
theorem digs_step : ∀ {l : List Int} {n : Int} {i : Nat} {c : Int}, l[i]? = some c → digs (l.take (i + 1)) n = digs (l.take i) n ++ [restI l n i % c] ∧ restI l n (i + 1) = restI l n i / c
  | [], _, _, _, h => by cases h
  | a :: l, n, 0, c, h => by
    cases h
    refine ⟨rfl, ?_⟩
    show restI l (n / a) 0 = n / a
    cases l <;> rfl
  | a :: l, n, i + 1, c, h => by
    obtain ⟨h1, h2⟩ := digs_step (l := l) (n := n / a) (i := i) (c := c) h
    refine ⟨?_, h2⟩
    show n % a :: digs (l.take (i + 1)) (n / a) = (n % a :: digs (l.take i) (n / a)) ++ [restI l (n / a) i % c]
    rw [h1] <;> rfl
theorem rest_bd : ∀ {l : List Int} {n : Int} {i : Nat}, (∀ c ∈ l, 1 ≤ c ∧ c ≤ 6) → 0 ≤ n → 0 ≤ restI l n i ∧ restI l n i ≤ n
  | [], n, 0, _, h => ⟨h, Int.le_refl _⟩
  | [], n, i + 1, _, h => ⟨h, Int.le_refl _⟩
  | a :: l, n, 0, _, h => ⟨h, Int.le_refl _⟩
  | a :: l, n, i + 1, hl, h => by
    obtain ⟨c1, c2⟩ := hl a (List.mem_cons_self ..)
    have q := Int.ediv_nonneg h (by omega : 0 ≤ a)
    obtain ⟨h1, h2⟩ := rest_bd (l := l) (n := n / a) (i := i) (fun x hx => hl x (List.mem_cons_of_mem _ hx)) q
    refine ⟨h1, Int.le_trans h2 ?_⟩
    exact Int.ediv_le_self a h
theorem nums_pre {a b x y : List Int} : ∀ {i : Nat}, i ≤ a.length → i ≤ b.length → nums (a ++ x) (b ++ y) i = nums a b i
  | 0, _, _ => rfl
  | i + 1, h1, h2 => by
    show nums (a ++ x) (b ++ y) i * (a ++ x).getD i 0 + (b ++ y).getD i 0 = nums a b i * a.getD i 0 + b.getD i 0
    rw [nums_pre (by omega) (by omega), List.getD_eq_getElem?_getD, List.getD_eq_getElem?_getD, List.getElem?_append_left (by omega), List.getElem?_append_left (by omega), ← List.getD_eq_getElem?_getD, ← List.getD_eq_getElem?_getD]
theorem nums_row : ∀ {l : List Int}, (∀ c ∈ l, 1 ≤ c ∧ c ≤ 6) → ∀ {n : Int}, 0 ≤ n → n < PR l → nums l.reverse (rowR l n) l.length = n
  | [], _, n, h0, h1 => by
    have h1 : n < 1 := h1
    have : n = 0 := by omega
    subst this
    rfl
  | c :: l, hl, n, h0, h1 => by
    obtain ⟨c1, c2⟩ := hl c (List.mem_cons_self ..)
    have hl' := fun x hx => hl x (List.mem_cons_of_mem _ hx)
    have hq : n / c < PR l := Int.ediv_lt_of_lt_mul (by omega) h1
    have ih := nums_row (l := l) hl' (Int.ediv_nonneg h0 (by omega)) hq
    have er : rowR (c :: l) n = rowR l (n / c) ++ [n % c] := by
      show (n % c :: digs l (n / c)).reverse = _
      rw [List.reverse_cons] <;> rfl
    have len : (rowR l (n / c)).length = l.length := by
      unfold rowR
      rw [List.length_reverse, digs_len]
    rw [er, List.reverse_cons]
    show nums (l.reverse ++ [c]) (rowR l (n / c) ++ [n % c]) l.length * (l.reverse ++ [c]).getD l.length 0 + (rowR l (n / c) ++ [n % c]).getD l.length 0 = n
    rw [nums_pre (by simp) (by rw [len]; exact Nat.le_refl _), ih]
    have e1 : (l.reverse ++ [c]).getD l.length 0 = c := by
      rw [List.getD_eq_getElem?_getD, List.getElem?_append_right (by simp)]
      simp
    have e2 : (rowR l (n / c) ++ [n % c]).getD l.length 0 = n % c := by
      rw [List.getD_eq_getElem?_getD, List.getElem?_append_right (by rw [len]; exact Nat.le_refl _), len]
      simp
    rw [e1, e2]
    have := Int.mul_ediv_add_emod n c
    rw [Int.mul_comm] at this
    exact this
/-- the digits stand below their counts -/
def Below (cs r : List Int) (k : Nat) : Prop := ∀ (i : Nat) (c d : Int), i < k → cs[i]? = some c → r[i]? = some d → 0 ≤ d ∧ d < c
theorem below_row : ∀ {l : List Int}, (∀ c ∈ l, 1 ≤ c ∧ c ≤ 6) → ∀ {n : Int} {k : Nat}, Below l.reverse (rowR l n) k
  | [], _, n, k => fun i c d _ h _ => by cases h
  | a :: l, hl, n, k => fun i c d hi hc hd => by
    obtain ⟨c1, c2⟩ := hl a (List.mem_cons_self ..)
    have hl' := fun x hx => hl x (List.mem_cons_of_mem _ hx)
    have er : rowR (a :: l) n = rowR l (n / a) ++ [n % a] := by
      show (n % a :: digs l (n / a)).reverse = _
      rw [List.reverse_cons] <;> rfl
    have len : (rowR l (n / a)).length = l.length := by
      unfold rowR
      rw [List.length_reverse, digs_len]
    rw [er] at hd
    rw [List.reverse_cons] at hc
    by_cases h : i < l.length
    · rw [List.getElem?_append_left (by simpa using h)] at hc
      rw [List.getElem?_append_left (by rw [len]; exact h)] at hd
      exact below_row (l := l) hl' i c d hi hc hd
    · rw [List.getElem?_append_right (by simpa using (by omega : l.length ≤ i))] at hc
      rw [List.getElem?_append_right (by rw [len]; omega)] at hd
      have e0 : i - l.reverse.length = 0 := by
        have : i - l.reverse.length < 1 := (List.getElem?_eq_some_iff.mp hc).1
        omega
      rw [e0] at hc
      have e1 : i - (rowR l (n / a)).length = 0 := by
        rw [len]
        rw [List.length_reverse] at e0
        exact e0
      rw [e1] at hd
      cases hc
      cases hd
      exact ⟨Int.emod_nonneg _ (by omega), Int.emod_lt_of_pos _ (by omega)⟩
theorem nums_bd {cs r : List Int} (hc : ∀ c ∈ cs, 1 ≤ c ∧ c ≤ 6) : ∀ {k : Nat}, k ≤ cs.length → k ≤ r.length → Below cs r k → 0 ≤ nums cs r k ∧ nums cs r k < 6 ^ k
  | 0, _, _, _ => ⟨Int.le_refl _, (by decide : (0 : Int) < 6 ^ 0)⟩
  | k + 1, h1, h2, hb => by
    obtain ⟨i1, i2⟩ := nums_bd hc (k := k) (by omega) (by omega) fun i c d hi => hb i c d (by omega)
    have g1 : cs[k]? = some (cs.getD k 0) := by rw [List.getD_eq_getElem?_getD, List.getElem?_eq_getElem (by omega)] <;> rfl
    have g2 : r[k]? = some (r.getD k 0) := by rw [List.getD_eq_getElem?_getD, List.getElem?_eq_getElem (by omega)] <;> rfl
    obtain ⟨d1, d2⟩ := hb k _ _ (by omega) g1 g2
    obtain ⟨c1, c2⟩ := hc _ (List.mem_of_getElem? g1)
    generalize cs.getD k 0 = c at g1 d2 c1 c2 ⊢
    generalize r.getD k 0 = d at g2 d1 d2 ⊢
    show 0 ≤ nums cs r k * cs.getD k 0 + r.getD k 0 ∧ _
    have ec : cs.getD k 0 = c := by rw [List.getD_eq_getElem?_getD, g1] <;> rfl
    have ed : r.getD k 0 = d := by rw [List.getD_eq_getElem?_getD, g2] <;> rfl
    rw [show nums cs r (k + 1) = nums cs r k * cs.getD k 0 + r.getD k 0 from rfl, ec, ed]
    generalize nums cs r k = m at i1 i2 ⊢
    have p0 := Int.mul_nonneg i1 (by omega : 0 ≤ c)
    refine ⟨by omega, ?_⟩
    have p1 : m * c + c ≤ 6 ^ k * c := by
      have : (m + 1) * c ≤ 6 ^ k * c := Int.mul_le_mul_of_nonneg_right (by omega) (by omega)
      rw [Int.add_mul, Int.one_mul] at this
      exact this
    have p2 : (6 : Int) ^ k * c ≤ 6 ^ k * 6 := Int.mul_le_mul_of_nonneg_left c2 (Int.le_trans i1 (Int.le_of_lt i2))
    rw [Int.pow_succ]
    omega
theorem row_len {l : List Int} {n : Int} : (rowR l n).length = l.length := by
  unfold rowR
  rw [List.length_reverse, digs_len]
theorem RR_row {l : List Int} {r : List Int} : r ∈ RR l → r.length = l.length := by
  induction l generalizing r with
  | nil =>
    intro h
    have h : r ∈ [([] : List Int)] := h
    rw [List.mem_singleton.mp h] <;> rfl
  | cons c l ih =>
    intro h
    have h : r ∈ rows1 (RR l) c := h
    unfold rows1 at h
    obtain ⟨q, hq, h⟩ := List.mem_flatMap.mp h
    obtain ⟨i, _, rfl⟩ := List.mem_map.mp h
    rw [List.length_append, ih hq] <;> rfl
end Hs
namespace Hs
open PySem PySem.Spec PyProof.Rows L2 Evl
/-! ### lists or tuples; rows of choices -/
theorem ip_mul {X : Cx} : PIp X .Mult (fun x y H Q => ∃ i j, x = .int i ∧ y = .int j ∧ CMulW i j ∧ Q (.int (i * j)) H) := by
  intro pins s σ H x y v u Q I r1 r2 h
  obtain ⟨i, j, e1, e2, hc, q⟩ := h
  subst e1; subst e2
  obtain ⟨t, rfl⟩ := r1
  obtain ⟨t', rfl⟩ := r2
  exact imul_int ⟨.int _, H, I.tok _, ⟨_, rfl⟩, q⟩ hc.ok
theorem pa_starK {X : Cx} {K : PySem.W.Frag} {e : Expr} {es : List Expr} {te : TE} {t : TA} {p : Pos} (he : PE X e te) (hr : PA X es t) (hK : X.K = K := by rfl) (hs : starEach (.Starred e p :: es) X.env = (true, eval e X.env) :: starEach es X.env := by rfl) : PA X (.Starred e p :: es) (StX.tStar K te t) := by
  subst hK
  exact StX.pa_star he hr hs
def SqQ (K : PySem.W.Frag) (H : Hp) (a : Addr) (xs : List V) : Prop := SqL K H a xs ∨ SqT K H a xs
theorem SqQ.ext {K : PySem.W.Frag} {H H' : Hp} {a : Addr} {xs : List V} (h : SqQ K H a xs) (e : Ex H H') : SqQ K H' a xs := h.imp (fun h => ex_l e h) fun h => ex_t e h
def iSeq (K : PySem.W.Frag) (tl : TE) : TI := fun σ H R => iList K tl σ H R ∨ iTup K tl σ H R
theorem pi_seq {X : Cx} {tg l : Expr} {tl : TE} (hl : PE X l tl) : PI X tg l (iSeq X.K tl) := ⟨fun pins s σ H R I h => h.elim (fun h => (pi_list hl).run pins s σ H R I h) fun h => (pi_tup hl).run pins s σ H R I h⟩
section
variable {K : PySem.W.Frag} {D : Ends} {σ : L2.St} {H : Hp} {g : TG} {tu tz : TS}
theorem s_forQ {a : Addr} {xs : List V} {tl : TE} (h : Ev tl σ H (.ref a)) (hx : SqQ K H a xs) (Pv : Nat → L2.St → Hp → Prop) (h0 : ∀ H1, Ex H H1 → Pv 0 σ H1) (hl : ∀ i σ' H', Pv i σ' H' → Ex H H')
    (hs : ∀ i x σ' H', xs[i]? = some x → Pv i σ' H' → g x σ' H' fun σ2 H2 => tu { D with nx := Pv (i + 1), ct := Pv (i + 1), bk := D.nx } σ2 H2) (hd : ∀ σ' H', Pv xs.length σ' H' → D.nx σ' H') : tFor (iSeq K tl) g tu D σ H := by
  rcases hx with hx | hx
  · exact .inl (s_forL h hx Pv h0 (fun i σ' H' _ p => ex_l (hl i σ' H' p) hx) hs hd)
  · exact .inr (s_forT h hx Pv h0 (fun i σ' H' _ p => ex_t (hl i σ' H' p) hx) hs hd)
theorem q_forQ {a : Addr} {xs : List V} {tl : TE} (h : Ev tl σ H (.ref a)) (hx : SqQ K H a xs) (Pv : Nat → L2.St → Hp → Prop) (h0 : ∀ H1, Ex H H1 → Pv 0 σ H1) (hl : ∀ i σ' H', Pv i σ' H' → Ex H H')
    (hs : ∀ i x σ' H', xs[i]? = some x → Pv i σ' H' → g x σ' H' fun σ2 H2 => tu { D with nx := Pv (i + 1), ct := Pv (i + 1), bk := tz D } σ2 H2) (hd : ∀ σ' H', Pv xs.length σ' H' → tz D σ' H') : tSeq (tFor (iSeq K tl) g tu) tz D σ H := s_forQ (D := { D with nx := tz D }) h hx Pv h0 hl hs hd
end
def Flies (C : Addr) (wd : Str) (H : Hp) (E : XK) : Prop := ∀ d H', Ex H H' → H d = none → H' d = some (.xd [("word", .str wd)]) → E (.ref C) (some d) H'
theorem Flies.ext {C : Addr} {wd : Str} {H H1 : Hp} {E : XK} (h : Flies C wd H E) (e : Ex H H1) : Flies C wd H1 E := fun d H' e' n hd => h d H' (e.trans e') (fresh_back e n) hd
abbrev iv (cs : List Int) : List V := cs.map V.int
theorem iv_at {cs : List Int} {i : Nat} {x : V} (h : (iv cs)[i]? = some x) : ∃ c, x = .int c ∧ cs[i]? = some c := by
  rw [List.getElem?_map] at h
  obtain ⟨c, hc, rfl⟩ := Option.map_eq_some_iff.mp h
  exact ⟨c, rfl, hc⟩
def spMany (K : PySem.W.Frag) : Sp := fun vs H Q _ => ∃ (a : Addr) (cs : List Int), vs = [.ref a] ∧ SqQ K H a (iv cs) ∧ Cnt cs ∧ RetV (.int (PR cs.reverse)) H Q
section
variable {P : Program} {w : World} {K : PySem.W.Frag} {mg : Str → Option Value} {base : Heap} {f C : Addr} {fd : FuncData}
abbrev sMany : Stmt := top 51
theorem scMany : FnScope ["counts", "many", "count"] ["counts"] (defScope sMany) := ⟨rfl, rfl, rfl, by decide +kernel, rfl, by decide +kernel, by decide +kernel⟩
theorem ok_many (F : FnP K "how_many" sMany f fd) : FnOk P w K mg base CX0 1 f fd ["counts"] (spMany K) := by
  have nd := scMany.nd
  refine F.ok scMany (fun vs H Q E h => ?_) (fun cdv A outer s H vs Q E hr h => ⟨_, PSs.nox (pss_cons (ps_set (i := 1) nd rfl (.inl rfl) pe_int)
  (pss_cons (ps_for PassesOwn.never rfl (Hs.pi_seq (pv 0)) (pg_name (i := 2) nd rfl (.inl rfl)) (pss_one (ps_aug (i := 1) nd rfl (.inl rfl) (pv 2) Hs.ip_mul)))
  (pss_one (ps_ret (pv 1))))), ?_⟩)
  · obtain ⟨a, cs, rfl, _⟩ := h
    rfl
  · obtain ⟨a, cs, rfl, hS, hC, k⟩ := h
    refine q_asg ev_c fun H1 e1 => ?_
    refine q_forQ (ev_var rfl) (hS.ext e1) (fun i σ' H' => Ex H1 H' ∧ ∃ v2, σ' = [some (.ref a), some (.int (PR (cs.take i).reverse)), v2]) (fun H2 e2 => ⟨e2, none, rfl⟩) (fun i σ' H' p => p.1) (fun i x σ' H' hx p => ?_) (fun σ' H' p => ?_)
    · obtain ⟨e2, v2, rfl⟩ := p
      obtain ⟨c, rfl, hc⟩ := iv_at hx
      obtain ⟨p1, p2⟩ := PR_small (hC.take i)
      obtain ⟨c1, c2⟩ := hC.2 c (List.mem_of_getElem? hc)
      refine ⟨_, rfl, _, rfl, _, _, rfl, rfl, mul64 (by omega) (by omega), ?_⟩
      refine ⟨e2, some (.int c), ?_⟩
      rw [take_rev hc]
      rfl
    · obtain ⟨e2, v2, rfl⟩ := p
      rw [List.length_map, List.take_length]
      exact s_ret (ev_var rfl) fun H3 e3 => k H3 ((e1.trans e2).trans e3)
end
end Hs
namespace Hs
open PySem PySem.Spec PyProof.Rows L2 Evl
/-! ### zip of a list or a tuple with a tuple; reversed -/
def iZipQ (K : PySem.W.Frag) (ta : TA) : TI := fun σ H R => iZipM K ta σ H R ∨ RZ.iZipA K ta σ H R
theorem pi_zipQ {X : Cx} {e e2 : Expr} {ta : TA} {p pos tpos : Pos} {elts : List Expr} {kk : Nat} (hg : Gl X "zip") (hm : X.mg "zip" = none) (ha : PA X [e, e2] ta)
    (hs : starEach [e, e2] X.env = (false, eval e X.env) :: starEach [e2] X.env := by rfl) (hpl : (backTo pos (starEach [e2] X.env)).any (·.1) = false := by rfl) :
    PI X (.Tuple elts kk tpos) (.Call (.Name "zip" p) [e, e2] [] pos) (iZipQ X.K ta) := ⟨fun pins s σ H R I h => h.elim (fun h => (pi_zipM hg hm ha hs hpl).run pins s σ H R I h) fun h => (RZ.pi_zipA hg hm ha hs hpl).run pins s σ H R I h⟩
section
variable {K : PySem.W.Frag} {D : Ends} {σ : L2.St} {H : Hp} {tu tz : TS}
theorem s_zipQ {a b : Addr} {xs ys : List V} {ta tb : TE} {i j : Nat} (ha : Ev ta σ H (.ref a)) (hb : Ev tb σ H (.ref b)) (hx : SqQ K H a xs) (hy : SqT K H b ys) (hl : xs.length = ys.length) (Pv : Nat → L2.St → Hp → Prop) (h0 : ∀ H1, Ex H H1 → Pv 0 σ H1) (he : ∀ i σ' H', Pv i σ' H' → Ex H H')
    (hs : ∀ (k : Nat) (x y : V) σ' H' H'', xs[k]? = some x → ys[k]? = some y → Pv k σ' H' → Ex H' H'' → tu { D with nx := Pv (k + 1), ct := Pv (k + 1), bk := D.nx } ((σ'.set i (some x)).set j (some y)) H'') (hd : ∀ σ' H', Pv xs.length σ' H' → D.nx σ' H') :
    tFor (iZipQ K (tCons ta (tCons tb tNil))) (gTup K 2 (gCons (gName i) (gCons (gName j) gNil))) tu D σ H := by
  rcases hx with hx | hx
  · refine .inl (ha H (Ex.refl H) _ fun H1 e1 => hb H1 e1 _ fun H2 e2 => ⟨a, b, xs, ys, rfl, ex_l (e1.trans e2) hx, ex_t (e1.trans e2) hy, ?_⟩)
    refine ⟨fun k m σ' H' => Pv k σ' H' ∧ k ≤ xs.length ∧ m = xs.length - k, ⟨_, h0 _ (e1.trans e2), Nat.zero_le _, rfl⟩, ?_⟩
    rintro k m σ' H' ⟨p, hk, rfl⟩
    by_cases hlt : k < xs.length
    · have g1 : xs[k]? = some xs[k] := List.getElem?_eq_getElem hlt
      have g2 : ys[k]? = some (ys[k]'(by omega)) := List.getElem?_eq_getElem (by omega)
      have e := he k σ' H' p
      refine .inr ⟨⟨xs, ys, _, _, ex_l e hx, ex_t e hy, g1, g2⟩, Pv (k + 1), fun σ2 H3 p' => ⟨xs.length - (k + 1), by omega, p', hlt, rfl⟩, fun v H3 hv => ?_⟩
      obtain ⟨T, x1, x2, rfl, hT, rfl, f1, f2⟩ := hv
      exact ⟨T, [x1, x2], rfl, st_of upd_same, rfl, _, _, rfl, _, _, rfl, rfl, hs k x1 x2 σ' H' _ (f1 _ (ex_l e hx)) (f2 _ (ex_t e hy)) p (Ex.new hT)⟩
    · have ek : k = xs.length := by omega
      subst ek
      have e := he _ σ' H' p
      exact .inl ⟨⟨xs, ys, ex_l e hx, ex_t e hy, Nat.le_refl _⟩, hd σ' H' p⟩
  · refine .inr (ha H (Ex.refl H) _ fun H1 e1 => hb H1 e1 _ fun H2 e2 => ⟨a, b, xs, ys, rfl, .inr ⟨ex_t (e1.trans e2) hx, ex_t (e1.trans e2) hy, ?_⟩⟩)
    refine ⟨fun k m σ' H' => Pv k σ' H' ∧ k ≤ xs.length ∧ m = xs.length - k, ⟨_, h0 _ (e1.trans e2), Nat.zero_le _, rfl⟩, ?_⟩
    rintro k m σ' H' ⟨p, hk, rfl⟩
    by_cases hlt : k < xs.length
    · have g1 : xs[k]? = some xs[k] := List.getElem?_eq_getElem hlt
      have g2 : ys[k]? = some (ys[k]'(by omega)) := List.getElem?_eq_getElem (by omega)
      have e := he k σ' H' p
      refine .inr ⟨⟨xs, ys, _, _, ex_t e hx, ex_t e hy, g1, g2⟩, Pv (k + 1), fun σ2 H3 p' => ⟨xs.length - (k + 1), by omega, p', hlt, rfl⟩, fun v H3 hv => ?_⟩
      obtain ⟨T, x1, x2, rfl, hT, rfl, f1, f2⟩ := hv
      exact ⟨T, [x1, x2], rfl, st_of upd_same, rfl, _, _, rfl, _, _, rfl, rfl, hs k x1 x2 σ' H' _ (f1 _ (ex_t e hx)) (f2 _ (ex_t e hy)) p (Ex.new hT)⟩
    · have ek : k = xs.length := by omega
      subst ek
      have e := he _ σ' H' p
      exact .inl ⟨⟨xs, ys, ex_t e hx, ex_t e hy, .inl (Nat.le_refl _)⟩, hd σ' H' p⟩
end
def GoodR (cs r : List Int) : Prop := r.length = cs.length ∧ Below cs r cs.length
def spNum (K : PySem.W.Frag) (C : Addr) : Sp := fun vs H Q E => ∃ (a b : Addr) (cs r : List Int), vs = [.ref a, .ref b] ∧ SqQ K H a (iv cs) ∧ SqT K H b (iv r) ∧ Cnt cs ∧ (¬ GoodR cs r → Flies C "badsetting" H E) ∧ (GoodR cs r → RetV (.int (nums cs r cs.length)) H Q)
theorem below_next {cs r : List Int} {i : Nat} {c d : Int} (h : Below cs r i) (hc : cs[i]? = some c) (hd : r[i]? = some d) (h1 : 0 ≤ d) (h2 : d < c) : Below cs r (i + 1) := fun k c' d' hk hc' hd' => by
  by_cases e : k = i
  · subst e
    rw [hc] at hc'
    rw [hd] at hd'
    cases hc'
    cases hd'
    exact ⟨h1, h2⟩
  · exact h k c' d' (by omega) hc' hd'
section
variable {P : Program} {w : World} {K : PySem.W.Frag} {mg : Str → Option Value} {base : Heap} {f C : Addr} {fd : FuncData}
abbrev sNum : Stmt := top 53
theorem scNum : FnScope ["counts", "row", "place", "count", "number"] ["counts", "row"] (defScope sNum) := ⟨rfl, rfl, rfl, by decide +kernel, rfl, by decide +kernel, by decide +kernel⟩
theorem ok_num (F : FnP K "row_number" sNum f fd) (Er_BadSetting : ErrF P w K mg base 1 "BadSetting" C "badsetting") (g_zip : mg "zip" = none) (g_len : mg "len" = none) :
    FnOk P w K mg base (L2.CX P w) 3 f fd ["counts", "row"] (spNum K C) := by
  have nd := scNum.nd
  refine F.ok scNum (fun vs H Q E h => ?_) (fun cdv A outer s H vs Q E hr h => ⟨_, (pss_cons (ps_if (pt_cmpR op_ne (pe_callB (r := Evl.rLenS K) call_len_seq (by rfl) g_len PySem.boot_len (pa_cons (pv 1) pa_nil)) (pe_callB (r := Evl.rLenS K) call_len_seq (by rfl) g_len PySem.boot_len (pa_cons (pv 0) pa_nil)) (nomark _)) (pss_one (ps_raise rfl (takes_of rfl rfl rfl rfl) (Hs.pmk_err Er_BadSetting hr (by decide) (by rfl)))) pss_nil)
  (pss_cons (ps_set (i := 2) nd rfl (.inl rfl) pe_int)
  (pss_cons (ps_for (passes_of rfl) rfl (Hs.pi_zipQ (by rfl) g_zip (pa_cons (pv 0) (pa_cons (pv 1) pa_nil))) (pg_tup rfl (pgs_cons (pg_name (i := 3) nd rfl (.inl rfl)) (pgs_cons (pg_name (i := 4) nd rfl (.inl rfl)) pgs_nil))) (pss_cons (ps_if (PW.pt (pw_or (pt_cmpR op_lt (pv 4) pe_int (nomark _)) (pw_or1 (pt_cmpR op_ge (pv 4) (pv 3) (nomark _))))) (pss_one (ps_raise rfl (takes_of rfl rfl rfl rfl) (Hs.pmk_err Er_BadSetting hr (by decide) (by rfl)))) pss_nil)
  (pss_one (ps_set (i := 2) nd rfl (.inl rfl) (pe_op op_add (pe_op op_mulW (pv 2) (pv 3)) (pv 4))))))
  (pss_one (ps_ret (pv 2)))))), ?_⟩)
  · obtain ⟨a, b, cs, r, rfl, _⟩ := h
    rfl
  · obtain ⟨a, b, cs, r, rfl, hS, hR, hC, kE, k⟩ := h
    refine q_when (et_test (ev_op (ev_lenQ (ev_var rfl) (.inr hR)) (ev_lenQ (ev_var rfl) hS) (rv_ne rfl))) (fun ht H1 e1 => ?_) (fun ht H1 e1 => ?_)
    · refine (kE fun g => ?_).ext e1
      have g1 := g.1
      simp [g1] at ht
    · have hlen : r.length = cs.length := by
        simp at ht
        omega
      refine q_asg ev_c fun H2 e2 => ?_
      have e12 := e1.trans e2
      refine s_zipQ (D := { nx := _, rt := _ }) (ev_var rfl) (ev_var rfl) (hS.ext e12) (ex_t e12 hR) (by rw [List.length_map, List.length_map, hlen]) (fun i σ' H' => Ex H2 H' ∧ i ≤ cs.length ∧ Below cs r i ∧ ∃ v3 v4, σ' = [some (.ref a), some (.ref b), some (.int (nums cs r i)), v3, v4]) (fun H3 e3 => ⟨e3, Nat.zero_le _, fun k c d hk => absurd hk (Nat.not_lt_zero _), none, none, rfl⟩) (fun i σ' H' p => p.1) (fun i x y σ' H' H3 hx hy p e3 => ?_) (fun σ' H' p => ?_)
      · obtain ⟨e4, hi, hB, v3, v4, rfl⟩ := p
        obtain ⟨c, rfl, hc⟩ := iv_at hx
        obtain ⟨d, rfl, hd⟩ := iv_at hy
        have hil : i < cs.length := (List.getElem?_eq_some_iff.mp hc).1
        obtain ⟨c1, c2⟩ := hC.2 c (List.mem_of_getElem? hc)
        refine q_when (et_or (et_test (ev_op (ev_var rfl) ev_c rv_I0)) fun _ => et_test (ev_op (ev_var rfl) (ev_var rfl) rv_I0)) (fun ht H5 e5 => ?_) (fun ht H5 e5 => ?_)
        · refine (kE fun g => ?_).ext (((e12.trans e4).trans e3).trans e5)
          obtain ⟨d1, d2⟩ := g.2 i c d hil hc hd
          simp at ht
          omega
        · have hdd : 0 ≤ d ∧ d < c := by
            simp at ht
            omega
          obtain ⟨n1, n2⟩ := nums_bd (k := i) hC.2 (by omega) (by omega) hB
          have n3 := six_le (n := i) (by have := hC.1; omega)
          refine s_asg (ev_op (ev_op (ev_var rfl) (ev_var rfl) (rv_I (mul64 (by omega) (by omega)))) (ev_var rfl) rv_I0) fun H6 e6 => ⟨((e4.trans e3).trans e5).trans e6, hil, below_next hB hc hd hdd.1 hdd.2, some (.int c), some (.int d), ?_⟩
          show _ = [_, _, some (V.int (nums cs r i * cs.getD i 0 + r.getD i 0)), _, _]
          rw [List.getD_eq_getElem?_getD, List.getD_eq_getElem?_getD, hc, hd]
          rfl
      · obtain ⟨e4, hi, hB, v3, v4, rfl⟩ := p
        rw [List.length_map] at hB ⊢
        exact s_ret (ev_var rfl) fun H5 e5 => k ⟨hlen, hB⟩ H5 ((e12.trans e4).trans e5)
end
end Hs
namespace Hs
open PySem PySem.Spec PyProof.Rows L2
/-! ### {**d, k: v} -/
section
variable {prog : Program} {w : World} {K : Type} [DecidableEq K] {knd : KeyKind prog w K} {A : Around} {E : Value → Shared → Prop} {s : Shared}
theorem put_pairs {d : Addr} {kvs : List (K × Value)} {k : K} {key v : Value} {Q : Unit → Shared → Prop} (hkey : knd.is k key = true) (hm : s.heap.DictOf knd d kvs)
    (hQ : ∀ h', h'.DictOf knd d (stored kvs k v) → Heap.SameBut d s.heap h' → Q () { s with heap := h' }) (hsz : kvs.length ≤ sizeLine) :
    wpAny (model prog w) A (dictPut d (knd.hash k) key v) Q E s := by
  obtain ⟨o, es, ep, ho, hc, hd, hk, hp, hn⟩ := hm
  have hes : es.size ≤ sizeLine := by
    have e1 := hp.length
    have e2 : es.toList.length = es.size := by simp
    omega
  unfold dictPut
  refine wpAny_bind (wpAny_dictFind_of hkey ho hd hk ?_)
  have hidx : (es.findIdx? fun e => knd.is k e.key) = kvs.findIdx? fun kv => decide (kv.1 = k) := by
    rw [← hp.findIdx k]
    obtain ⟨l⟩ := es
    simp
  cases hi : es.findIdx? fun e => knd.is k e.key with
  | some i =>
    refine wpAny_updateDict ho hd (hQ _ ⟨_, _, ep, Heap.get?_update_self _ ho (Obj.isFreed_of_dict (Obj.data_mapDict hd _)), hc.mapDict _, Obj.data_mapDict hd _, hk.modify _ _, ?_, ?_⟩ (Heap.SameBut.update ..))
    · rw [stored, if_pos (any_of_findIdx_some (hidx ▸ hi))]
      have hl : (es.toList.findIdx? fun e => knd.is k e.key) = some i := by rw [← hi]; obtain ⟨l⟩ := es; simp
      have := hp.modify hn hl v
      obtain ⟨l⟩ := es
      simpa using this
    · rw [stored, if_pos (any_of_findIdx_some (hidx ▸ hi)), keys_map_store]
      exact hn
  | none =>
    have hnot : k ∉ kvs.map (·.1) := not_mem_of_findIdx_none (hidx ▸ hi)
    have hany : ¬ (kvs.any fun kv => decide (kv.1 = k)) = true := by
      rw [List.any_eq_true]
      rintro ⟨kv, hkv, he⟩
      exact hnot (List.mem_map.mpr ⟨kv, hkv, of_decide_eq_true he⟩)
    refine wpAny_updateDictKeys (hz := hes) ho hd (hQ _ ⟨_, _, ep + 1, Heap.get?_update_self _ ho (Obj.isFreed_of_dict (Obj.data_mapDictKeys hd _)), hc.mapDictKeys _, Obj.data_mapDictKeys hd _, hk.push hkey _, ?_, ?_⟩ (Heap.SameBut.update ..))
    · rw [stored, if_neg hany]
      have := hp.append hkey (knd.hash k) v
      obtain ⟨l⟩ := es
      simpa using this
    · rw [stored, if_neg hany, List.map_append, List.nodup_append]
      refine ⟨hn, by simp, ?_⟩
      intro a ha b hb
      simp only [List.map_cons, List.map_nil, List.mem_singleton] at hb
      subst hb
      exact fun e => hnot (e ▸ ha)
theorem merge_map {d o : Addr} {kvs more : List (K × Value)} {Q : Unit → Shared → Prop} (hdo : d ≠ o) (hoS : (o == sysModules) = false) (hd : s.heap.DictOf knd d kvs) (ho : s.heap.DictOf knd o more) (hnr : ∀ k key, knd.is k key = true → ∀ a, key ≠ .ref a)
    (hQ : ∀ h', h'.DictOf knd d (merged kvs more) → h'.DictOf knd o more → Heap.SameBut d s.heap h' → Q () { s with heap := h' }) (hsz : kvs.length + more.length ≤ sizeLine) :
    wpAny (model prog w) A (mergeMapping d (.ref o) false) Q E s := by
  obtain ⟨od, esd, epd, hod, hcd, hdd, hkd, hpd, hnd⟩ := id hd
  obtain ⟨oo, eso, epo, hoo, hco, hdo', hko, hpo, hno⟩ := id ho
  unfold mergeMapping
  refine wpAny_bind (wpAny_isInstance ho.typeIs isSubtype_dict_dict ?_)
  simp only [if_true]
  refine wpAny_bind (wpAny_specialOf ho.typeIs F.slot_dict_iter.lookup ?_)
  have hlen : more.length = eso.size := by rw [← hpo.length]; simp
  have loop : wpAny (model prog w) A (do
      let l ← dictEntries o
      let epoch ← dictEpoch o
      forIn (List.range l.size) PUnit.unit fun i (_ : PUnit) => (do
          let l' ← dictEntries o
          match l'[i]? with
            | some e => do
              holding [e.key, e.val] (dictPut d e.hash e.key e.val)
              let ep' ← dictEpoch o
              if (ep' != epoch) = true then do
                  (unsupported "dict.changed-during-merge" : Sem PUnit)
                  pure (ForInStep.yield PUnit.unit)
                else pure (ForInStep.yield PUnit.unit)
            | _ => do
              (unsupported "dict.changed-during-merge" : Sem PUnit)
              pure (ForInStep.yield PUnit.unit) : Sem (ForInStep PUnit))
      pure ()) Q E s := by
    refine wpAny_bind (wpAny_dictEntries hoo hdo' ?_)
    refine wpAny_bind (wpAny_dictEpoch hoo hdo' ?_)
    refine wpAny_bind ?_
    rw [List.range_eq_range']
    refine wpAny_forIn_list _
      (fun rest _ s' => ∃ h' i, s' = { s with heap := h' } ∧ rest = List.range' i (eso.size - i) ∧ i ≤ eso.size ∧ h'.DictOf knd d (merged kvs (more.take i)) ∧ h'.get? o = some oo ∧ Heap.SameBut d s.heap h')
      _ ?_ ?_ _ _ ⟨s.heap, 0, rfl, by simp, Nat.zero_le _, by simpa [merged] using hd, hoo, Heap.SameBut.refl _ _⟩
    · rintro x rest b s' ⟨h', i, rfl, hr, hi, hd', hoo', hs'⟩
      have hlt : i < eso.size := by
        rcases Nat.lt_or_ge i eso.size with h | h
        · exact h
        · rw [Nat.sub_eq_zero_of_le h] at hr; simp at hr
      obtain ⟨rfl, hrest⟩ : x = i ∧ rest = List.range' (i + 1) (eso.size - (i + 1)) := by
        have e : eso.size - i = (eso.size - (i + 1)) + 1 := by omega
        rw [e, List.range'_succ] at hr
        injection hr with h1 h2
        exact ⟨h1, h2⟩
      refine wpAny_bind (wpAny_dictEntries hoo' hdo' ?_)
      rw [Array.getElem?_eq_getElem hlt]
      obtain ⟨kv, hkv⟩ : ∃ kv, more[x]? = some kv := ⟨more[x]'(by rw [hlen]; exact hlt), List.getElem?_eq_getElem _⟩
      obtain ⟨k, v⟩ := kv
      obtain ⟨hkey, hval⟩ := hpo.get? (e := eso[x]) (by simp [hlt]) hkv
      obtain ⟨k', hkey', hhash⟩ := hko eso[x] (Array.getElem_mem hlt)
      obtain rfl : k' = k := knd.inj _ _ _ hkey' hkey
      show wpAny _ _ (holding [eso[x].key, eso[x].val] (dictPut d eso[x].hash eso[x].key eso[x].val) >>= _) _ _ _
      rw [hhash, hval]
      have hmx : (merged kvs (more.take x)).length ≤ sizeLine := by
        have e1 := merged_length_le kvs (more.take x)
        have e2 : (more.take x).length ≤ more.length := by rw [List.length_take]; omega
        omega
      refine wpAny_bind (wpAny_holding (put_pairs (hsz := hmx) hkey hd' fun h'' hd'' hs'' => ?_))
      have hoo'' : h''.get? o = some oo := (hs''.2 o (Ne.symm hdo)).trans hoo'
      refine wpAny_bind (wpAny_dictEpoch hoo'' hdo' ?_)
      rw [if_neg (by simp)]
      exact wpAny_pure ⟨h'', x + 1, rfl, hrest, hlt, by rw [merged_take_succ kvs more x (k', v) hkv]; exact hd'', hoo'', hs'.trans hs''⟩
    · rintro b s' ⟨h', i, rfl, hr, hi, hd', hoo', hs'⟩
      have hin : i = eso.size := by
        rcases Nat.lt_or_ge i eso.size with h | h
        · have e : eso.size - i = (eso.size - (i + 1)) + 1 := by omega
          rw [e, List.range'_succ] at hr; exact nomatch hr
        · exact Nat.le_antisymm hi h
      refine wpAny_pure (hQ h' ?_ ⟨oo, eso, epo, hoo', hco, hdo', hko, hpo, hno⟩ hs')
      rw [hin, ← hlen, List.take_length] at hd'; exact hd'
  refine wpAny_bind (wpAny_pure ?_)
  simp only [beq_self_eq_true]
  rw [if_neg (by rw [hoS]; exact Bool.false_ne_true)]
  refine wpAny_bind (wpAny_dictEntries hod hdd ?_)
  split
  · refine wpAny_bind (wpAny_dictEntries hoo hdo' ?_)
    refine wpAny_bind ?_
    rw [← Array.forIn_toList]
    refine wpAny_forIn_list _ (fun rest _ s' => s' = s ∧ ∀ e ∈ rest, e ∈ eso.toList) _ ?_ ?_ _ _ ⟨rfl, fun e he => he⟩
    · rintro e rest b s' ⟨rfl, hr⟩
      have he := hr e (List.mem_cons_self ..)
      obtain ⟨k', hkey', hhash⟩ := hko e (Array.mem_toList_iff.mp he)
      have hne := hnr _ _ hkey'
      split
      · rename_i a ha
        exact absurd ha (hne a)
      · exact wpAny_pure ⟨rfl, fun e he => hr e (List.mem_cons_of_mem _ he)⟩
    · rintro b s' ⟨rfl, _⟩
      exact loop
  · exact loop
end
end Hs
namespace Hs
open PySem PySem.Spec PyProof.Rows L2
section
variable {prog : Program} {w : World} {A : Around} {E : Value → Shared → Prop} {s : Shared}
/-- {**d, k: v}: what runs -/
theorem display_star {dt kt vt : Sem Value} {Q : Value → Shared → Prop}
    (h : wpAny (model prog w) A dt (fun m s1 => wpAny (model prog w) A (mergeMapping s.heap.objs.size m false) (fun _ s2 => wpAny (model prog w) A (subDict [(kt, vt)]) (fun q s3 => wpAny (model prog w) A (mergeMapping s.heap.objs.size (.ref q) false) (fun _ s4 => Q (.ref s.heap.objs.size) s4) (fun _ _ => False) s3) E s2) (fun _ _ => False) s1) E { s with heap := s.heap.push { cls := .type "dict", data := .dict #[] } }) :
    wpAny (model prog w) A (dictDisplay [(none, dt), (some kt, vt)]) Q E s := by
  unfold dictDisplay
  simp only [List.forIn_cons, List.forIn_nil, bind_assoc, pure_bind, List.isEmpty_nil, if_true, List.nil_append, List.length_cons, List.length_nil, List.isEmpty_cons]
  refine wpAny_bind (wpAny_alloc ?_)
  refine wpAny_bind (wpAny_holding (wpAny_mono h (fun m s1 h1 => ?_) fun _ _ e => e))
  refine wpAny_bind (wpAny_onRaise (wpAny_tryCatch (wpAny_onRaise (wpAny_holding (wpAny_mono h1 (fun _ s2 h2 => ?_) fun _ _ z => z.elim)))))
  rw [if_neg (by decide)]
  refine wpAny_bind (wpAny_pure ?_)
  refine wpAny_bind (wpAny_pure ?_)
  refine wpAny_bind ?_
  rw [if_neg (by simp)]
  refine wpAny_bind (wpAny_holding (wpAny_mono h2 (fun q s3 h3 => ?_) fun _ _ e => e))
  refine wpAny_bind (wpAny_onRaise (wpAny_holding (wpAny_mono h3 (fun _ s4 h4 => ?_) fun _ _ z => z.elim)))
  exact wpAny_pure (wpAny_pure h4)
end
/-- {**d, k: v}: the new dict p stands empty while d is read; q, that of the pair, stays behind -/
def tDStar (td tk tv : TE) : TE := fun σ H Q => ∀ p, H p = none → td σ (upd H p (.dK [])) fun x H1 => ∃ (a : Addr) (kvs : List (Key × V)), x = .ref a ∧ Rd H1 a (.dK kvs) ∧ H1 p = some (.dK []) ∧ a ≠ p ∧ kvs.length ≤ 10000 ∧
  ∀ q, upd H1 p (.dK kvs) q = none → tk σ (upd (upd H1 p (.dK kvs)) q (.dK [])) fun y H2 => tv σ H2 fun z H3 => ∃ key : Key, y = kV key ∧ H3 q = some (.dK []) ∧ H3 p = some (.dK kvs) ∧ p ≠ q ∧ Q (.ref p) (upd (upd H3 q (.dK [(key, z)])) p (.dK (putK kvs key z)))
theorem pe_dstar {X : Cx} {d k v : Expr} {td tk tv : TE} {pos : Pos} (hd : PE X d td) (hk : PE X k tk) (hv : PE X v tv) : PE X (.Dict [none, some k] [d, v] pos) (tDStar td tk tv) := by
  refine ⟨fun pins s σ H Q I h => ?_⟩
  have hn := I.hok.fresh (Nat.le_refl s.heap.objs.size)
  have I1 := I.laid (a := s.heap.objs.size) (o := .dK []) (h' := s.heap.push { cls := .type "dict", data := .dict #[] }) (t' := s.toks) (fun _ _ q => Heap.get?_push_of_some _ q) (Nat.le_refl _) (dk_empty s.heap I.big)
  have nr : ∀ (k : Key) (key : Value), (mixKind X.prog X.w).is k key = true → ∀ a, key ≠ .ref a := fun k key hk a e => by
    rcases keyIs_shape hk with ⟨i, t, rfl, rfl⟩ | ⟨x, t, rfl, rfl⟩ <;> cases e
  rw [arm_eval_Dict]
  refine wpAny_bind (wpAny_standAt ?_)
  show wpAny _ _ (dictDisplay [(none, do let x ← eval d X.env; standAt pos; pure x), (some (eval k X.env), do let x ← eval v X.env; standAt pos; pure x)]) _ _ _
  refine display_star (wpAny_bind (thn (hd.run pins _ σ _ _ I1 (h _ hn)) fun u s2 ⟨x, H1, I2, r1, a, kvs, ex, hr, hp, nap, hz, q1⟩ => wpAny_bind (wpAny_standAt (wpAny_pure ?_))))
  subst ex
  obtain rfl : u = Value.ref a := r1
  obtain ⟨z1, hda, vs1, rv1, dd1⟩ := dk_rd I2.hok hr
  obtain ⟨z2, hdp, vs2, rv2, dd2⟩ := dk_of I2.hok hp
  cases rv2
  have hnod : (vs1.map (·.1)).Nodup := by
    obtain ⟨_, _, _, _, _, _, _, _, hn⟩ := id dd1
    exact hn
  have lv1 : vs1.length = kvs.length := (KV.length rv1).symm
  have hsl : (10001 : Nat) ≤ sizeLine := by rw [sizeLine_eq]; decide
  refine merge_map (knd := mixKind X.prog X.w) (Ne.symm nap) hda dd2 dd1 nr (fun h1 dp da sb => ?_) (by rw [List.length_nil]; omega)
  rw [merged_nil_of_nodup vs1 hnod] at dp
  have I3 : Inv X pins σ (upd H1 s.heap.objs.size (.dK kvs)) { s2 with heap := h1 } := d_write I2 (by rw [hp]; exact True.intro) sb (let ⟨q, _, _, hq, _⟩ := dp; ⟨q, hq⟩) (dk_new z1 hdp rv1 dp)
  have hnq := I3.hok.fresh (Nat.le_refl h1.objs.size)
  have I4 := I3.laid (a := h1.objs.size) (o := .dK []) (h' := h1.push { cls := .type "dict", data := .dict #[] }) (t' := s2.toks) (fun _ _ q => Heap.get?_push_of_some _ q) (Nat.le_refl _) (dk_empty h1 I3.big)
  refine wpAny_subDict (knd := mixKind X.prog X.w) (by simp) (evalPairs_cons (thn (hk.run pins _ σ _ _ I4 (q1 _ hnq)) fun ku s3 ⟨y, H2, I5, r2, q2⟩ => wpAny_bind (thn (hv.run pins s3 σ H2 _ I5 q2) fun vu s4 ⟨z, H3, I6, r3, key, ey, hq3, hp3, npq, q3⟩ => wpAny_bind (wpAny_standAt (wpAny_pure (evalPairs_nil ?_))))))
  subst ey
  obtain ⟨z5, hdq, vs5, rv5, dd5⟩ := dk_of I6.hok hq3
  cases rv5
  refine ⟨[(key, vu)], ⟨kV_is r2, rfl, True.intro⟩, dd5, fun h2 dq sb2 => ?_⟩
  have I7 : Inv X pins σ (upd H3 h1.objs.size (.dK [(key, z)])) { s4 with heap := h2, toks := s4.toks + 1 } := d_write I6 (by rw [hq3]; exact True.intro) sb2 (let ⟨q, _, _, hq, _⟩ := dq; ⟨q, hq⟩) (dk_new (by simp; omega) hdq (.cons ⟨rfl, r3⟩ .nil) dq)
  have hp7 : upd H3 h1.objs.size (.dK [(key, z)]) s.heap.objs.size = some (.dK kvs) := by rw [upd_ne npq]; exact hp3
  obtain ⟨z7, hdp7, vs7, rv7, dd7⟩ := dk_of I7.hok hp7
  have lv7 : vs7.length = kvs.length := (KV.length rv7).symm
  refine merge_map (knd := mixKind X.prog X.w) npq hdq dd7 dq nr (fun h3 dp3 dq3 sb3 => ?_) (by simp only [merged, List.foldl_cons, List.foldl_nil, stored, List.any_nil]; simp; omega)
  refine ⟨.ref s.heap.objs.size, _, ?_, rfl, q3⟩
  exact d_write (t' := s4.toks + 1) I7 (by rw [hp7]; exact True.intro) sb3 (let ⟨q, _, _, hq, _⟩ := dp3; ⟨q, hq⟩) (dk_new (by have := length_putK kvs key z; omega) hdp7 (rv7.put key r3) dp3)
end Hs
namespace Hs
open PySem PySem.Spec PyProof.Rows L2
/-! ### x(e, .., *y), x a local name that holds one of several defs -/
structure HeldX (P : Program) (w : World) (K : PySem.W.Frag) (mg : Str → Option Value) (base : Heap) (k : Nat) (f : Addr) (sp : Sp) : Prop where
  ex : ∃ (fd : FuncData) (ps : List Str), FnOk P w K mg base (L2.CX P w) k f fd ps sp ∧ PySem.W.keepIn K (.ref f) = true ∧ Binds K fd ps []
def tCallAS (i : Nat) (S : Addr → Option Sp) (E : XK) (t : TA) : TE := fun σ H Q => ∃ f sp, σ[i]? = some (some (.ref f)) ∧ S f = some sp ∧ t σ H fun vs H1 => sp vs H1 Q E
theorem pe_callAS {X : Cx} {k j i : Nat} {x : Str} {E : XK} {e : Expr} {es : List Expr} {t : TA} {p pos : Pos} {S : Addr → Option Sp} (A : ∀ f sp, S f = some sp → HeldX X.prog X.w X.K X.mg X.base k f sp) (hr : Room j X.A) (hkj : k ≤ j) (hN : X.N[i]? = some x) (hv : Vis X.env.scope x) (hx : Passes (L2.CX X.prog X.w) X E) (ha : PA X (e :: es) t)
    (hdb : (x == ("__debug__" : Str)) = false := by decide) (hcd : (x == ("__classdict__" : Str)) = false := by decide)
    (he : starEach (e :: es) X.env = (false, eval e X.env) :: starEach es X.env := by rfl) (hst : (backTo pos (starEach es X.env)).any (·.1) = true := by rfl) : PE X (.Call (.Name x p) (e :: es) [] pos) (tCallAS i S E t) := by
  refine ⟨fun pins s σ H Q I h => ?_⟩
  obtain ⟨f, sp, hs, hS, ht⟩ := h
  obtain ⟨fd, ps, F, hk, hb⟩ := (A f sp hS).ex
  refine wpAny_Call_Name_kw (thn ((pe_var (pos := p) hN hv hdb hcd).run pins s σ H (fun v H1 => v = .ref f ∧ H1 = H) I ⟨.ref f, hs, rfl, rfl⟩) fun u s1 ⟨v, H1, I1, r1, q1⟩ => ?_)
  obtain ⟨rfl, rfl⟩ := q1
  cases r1
  refine PySem.W.callWith_S2 (h₀ := X.base) I.ok.mod.kin hk (thn (ha.run pos pins s1 σ _ _ I1 ht) fun us s2 ⟨vs, H2, I2, r, q⟩ => ⟨I2.kIn, ?_⟩) he hst
  refine run_fn F (hr.mono hkj) hb .nil hx I2 r ?_
  rw [List.append_nil]
  exact q
end Hs
namespace Hs
open PySem PySem.Spec PyProof.Rows L2
/-! ### o.m(e, .., k = v, ..), o an instance of an own class -/
def tMethN (C : Addr) (m : Str) (n l : Nat) (sp : Sp) (gV : List V → List V → List V) (E : XK) (ta : TE) (t tk : TA) : TE := fun σ H Q => ta σ H fun x H1 => ∃ a dx fs, x = .ref a ∧ H1 a = some (.ins C dx fs) ∧ fs.lookup m = none ∧
  t σ H1 fun vs H2 => tk σ H2 fun zs H3 => (V.ref a :: vs).length = n ∧ zs.length = l ∧ sp (gV (V.ref a :: vs) zs) H3 Q E
theorem pe_methN {X : Cx} {CX : CXT} {k n : Nat} {f C : Addr} {fd : FuncData} {ps ks : List Str} {sp : Sp} {E : XK} {m : Str} {pos apos : Pos} {e o : Expr} {es : List Expr} {kws : List Keyword} {ta : TE} {t tk : TA} {g : List Value → List Value → List Value} {gV : List V → List V → List V} {pl : Sem Bool}
    (he : PE X o ta) (c : Cls X.K C) (hm : Meth X.K C m f) (F : FnOk X.prog X.w X.K X.mg X.base CX k f fd ps sp) (hr : Room k X.A) (hb : KBn X.K fd ps n ks g gV) (hx : Passes CX X E) (ha : PA X (e :: es) t) (hkw : PK X kws tk)
    (hall : (backToKw pos (keywordEach kws X.env)).all (·.1.isSome) = true := by rfl) (hks : (backToKw pos (keywordEach kws X.env)).filterMap (·.1) = ks := by rfl) (hst : starEach (e :: es) X.env = (false, eval e X.env) :: starEach es X.env := by rfl)
    (hpl : ((backTo pos (starEach (e :: es) X.env)).any (·.1) || (backToKw pos (keywordEach kws X.env)).any (·.1.isNone)) = false := by rfl)
    (ht : eval (.Call (.Attribute o m apos) (e :: es) kws pos) X.env = (do
      let ov ← eval o X.env
      standAt apos.atName
      let (f, first) ← holding [ov] (getMethod ov m pl)
      callWith pos f first (backTo pos (starEach (e :: es) X.env)) (backToKw pos (keywordEach kws X.env))) := by rfl) :
    PE X (.Call (.Attribute o m apos) (e :: es) kws pos) (tMethN C m n ks.length sp gV E ta t tk) := by
  refine ⟨fun pins s σ H Q I h => ?_⟩
  refine PySem.W.methodCall_KW (pl := pl) (thn (he.run pins s σ H _ I h) fun u s1 ⟨x, H1, I1, rx, a, dx, fs, ex, ea, l, q⟩ => ?_) ht
  subst ex
  obtain rfl : u = Value.ref a := rx
  refine getmeth_ok I1 ea c hm l ?_
  refine PySem.W.callWith_KW (first := [.ref a]) (h₀ := X.base) I.ok.mod.kin hm.kp hall (thn (ha.run pos pins s1 σ H1 _ I1 q) fun us s2 ⟨vs, H2, I2, r, q2⟩ => ?_) hpl hst
  refine thn (hkw.run pos pins s2 σ H2 _ I2 q2) fun ws s3 ⟨zs, H3, I3, rz, l1, l2, q3⟩ => ⟨I3.kIn, ?_⟩
  rw [hks]
  exact run_fnN (us := .ref a :: us) (vs := .ref a :: vs) F hr hb hx I3 (.cons rfl r) rz l1 l2 q3
end Hs
namespace Hs
open PySem PySem.Spec PyProof.Rows L2
theorem un1 {k : Nat} {A : Around} (r : Room k A) : A.units + 1 < cLine := by
  have := r.un
  omega
/-! ### what is made and never changed again: known as it stands from its birth -/
def tFrz (t : TE) : TE := fun σ H Q => t σ H fun v H1 => ∃ d u, v = .ref d ∧ H1 d = some u ∧ Mut (some u) ∧ ∀ od, Q v (upd H1 d (.frz od u))
theorem pe_frz {X : Cx} {e : Expr} {t : TE} (h : PE X e t) : PE X e (tFrz t) := ⟨fun pins s σ H Q I q => thn (h.run pins s σ H _ I q) fun _ s1 ⟨x, H1, I1, r, d, u, ex, hd, mu, k⟩ => by
  obtain ⟨od, I2⟩ := I1.lock hd mu
  exact ⟨x, _, I2, r, k od⟩⟩
/-- a dict that stands so -/
def Fz (H : Hp) (a : Addr) (kvs : List (Key × V)) : Prop := ∃ od, H a = some (.frz od (.dK kvs))
theorem Fz.ext {H H' : Hp} {a : Addr} {kvs : List (Key × V)} (h : Fz H a kvs) (e : Evl.Ex H H') : Fz H' a kvs := let ⟨od, h⟩ := h; ⟨od, e _ _ h⟩
theorem Fz.rd {H : Hp} {a : Addr} {kvs : List (Key × V)} (h : Fz H a kvs) : Rd H a (.dK kvs) := .inr h
theorem Fz.get {H : Hp} {a : Addr} {kvs : List (Key × V)} (h : Fz H a kvs) {k : Key} : DGet H a (kV k) (valV kvs k) := .inl ⟨kvs, k, h.rd, rfl, rfl⟩
/-- {**d, k: v}, frozen at once -/
theorem eu_dstar {td tk tv : TE} {σ : L2.St} {H : Hp} {a : Addr} {kvs : List (Key × V)} {key : Key} {z : V} (h1 : Evl.Ev td σ H (.ref a)) (hk : Evl.Ev tk σ H (kV key)) (hv : Evl.Ev tv σ H z) (ha : Fz H a kvs) (hz : kvs.length ≤ 10000) :
    ∀ H1, Evl.Ex H H1 → ∀ Q : VK, (∀ p H2, H1 p = none → Evl.Ex H1 H2 → Fz H2 p (putK kvs key z) → Q (.ref p) H2) → tFrz (tDStar td tk tv) σ H1 Q := fun H1 e Q q => by
  intro p hp
  have x1 := Evl.Ex.new (o := .dK []) hp
  refine h1 _ (e.trans x1) _ fun H2 e2 => ⟨a, kvs, rfl, (ha.ext ((e.trans x1).trans e2)).rd, e2 _ _ upd_same, fun z => ?_, hz, fun q' hq' => ?_⟩
  · obtain ⟨od, ho⟩ := ha.ext e
    rw [z, hp] at ho
    cases ho
  · have ex2 : Evl.Ex H1 (upd H2 p (.dK kvs)) := Evl.Ex.mut (x1.trans e2) hp
    have xq := Evl.Ex.new (o := .dK []) hq'
    have npq : p ≠ q' := fun z => by
      rw [← z, upd_same] at hq'
      cases hq'
    refine hk _ ((e.trans ex2).trans xq) _ fun H3 e3 => hv _ (((e.trans ex2).trans xq).trans e3) _ fun H4 e4 => ⟨key, rfl, (e3.trans e4) _ _ upd_same, (e3.trans e4) _ _ (xq _ _ upd_same), npq, p, _, rfl, upd_same, True.intro, fun od => ?_⟩
    have e14 := ((ex2.trans xq).trans e3).trans e4
    have nq1 : H1 q' = none := Evl.fresh_back ex2 hq'
    refine q p _ hp ?_ ⟨od, upd_same⟩
    exact Evl.Ex.mut (Evl.Ex.mut (Evl.Ex.mut e14 nq1) hp) hp
/-- all but dicts in the making stays -/
def ExF (H H' : Hp) : Prop := ∀ b o, H b = some o → (∀ kvs, o ≠ .dK kvs) → H' b = some o
theorem Fz.extF {H H' : Hp} {a : Addr} {kvs : List (Key × V)} (h : Fz H a kvs) (e : ExF H H') : Fz H' a kvs := let ⟨od, h⟩ := h; ⟨od, e _ _ h (fun _ z => by cases z)⟩
/-- {**d, k: v}, v made on the way -/
theorem eu_dstarG {td tk tv : TE} {σ : L2.St} {H : Hp} {a : Addr} {kvs : List (Key × V)} {key : Key} {G : V → Hp → Prop} (h1 : Evl.Ev td σ H (.ref a)) (hk : Evl.Ev tk σ H (kV key)) (hv : ∀ H1, Evl.Ex H H1 → ∀ Q : VK, (∀ z H2, Evl.Ex H1 H2 → G z H2 → Q z H2) → tv σ H1 Q)
    (hG : ∀ z H2 H3, G z H2 → ExF H2 H3 → G z H3) (ha : Fz H a kvs) (hz : kvs.length ≤ 10000) :
    ∀ H1, Evl.Ex H H1 → ∀ Q : VK, (∀ p z H2, H1 p = none → Evl.Ex H1 H2 → G z H2 → Fz H2 p (putK kvs key z) → Q (.ref p) H2) → tFrz (tDStar td tk tv) σ H1 Q := fun H1 e Q q => by
  intro p hp
  have x1 := Evl.Ex.new (o := .dK []) hp
  refine h1 _ (e.trans x1) _ fun H2 e2 => ⟨a, kvs, rfl, (ha.ext ((e.trans x1).trans e2)).rd, e2 _ _ upd_same, fun z => ?_, hz, fun q' hq' => ?_⟩
  · obtain ⟨od, ho⟩ := ha.ext e
    rw [z, hp] at ho
    cases ho
  · have ex2 : Evl.Ex H1 (upd H2 p (.dK kvs)) := Evl.Ex.mut (x1.trans e2) hp
    have xq := Evl.Ex.new (o := .dK []) hq'
    have npq : p ≠ q' := fun z => by
      rw [← z, upd_same] at hq'
      cases hq'
    refine hk _ ((e.trans ex2).trans xq) _ fun H3 e3 => hv _ (((e.trans ex2).trans xq).trans e3) _ fun z H4 e4 g4 => ?_
    have hq4 := (e3.trans e4) q' _ (upd_same (H := upd H2 p (.dK kvs)) (a := q') (o := .dK []))
    have hp4 := (e3.trans e4) p _ (xq _ _ (upd_same (H := H2) (a := p) (o := .dK kvs)))
    refine ⟨key, rfl, hq4, hp4, npq, p, _, rfl, upd_same, True.intro, fun od => ?_⟩
    have e14 := ((ex2.trans xq).trans e3).trans e4
    have nq1 : H1 q' = none := Evl.fresh_back ex2 hq'
    refine q p z _ hp (Evl.Ex.mut (Evl.Ex.mut (Evl.Ex.mut e14 nq1) hp) hp) (hG z H4 _ g4 fun b o hb hn => ?_) ⟨od, upd_same⟩
    have nb : b ≠ p := fun w => by
      rw [w, hp4] at hb
      cases hb
      exact hn _ rfl
    have nq : b ≠ q' := fun w => by
      rw [w, hq4] at hb
      cases hb
      exact hn _ rfl
    rw [upd_ne nb, upd_ne nb, upd_ne nq]
    exact hb
end Hs
namespace Hs
open PySem PySem.Spec PyProof.Rows L2 Evl
/-! ### max of a tuple of numbers -/
def rMaxT (K : PySem.W.Frag) : List V → Hp → VK → Prop := fun vs H Q => ∃ (a : Addr) (ns : List Int), vs = [V.ref a] ∧ SqT K H a (ns.map V.int) ∧ 0 < ns.length ∧ ∀ m, m ∈ ns → (∀ y, y ∈ ns → y ≤ m) → Q (.int m) H
theorem maxOf_mem : ∀ (xs : List Int) (x : Int), PySem.W.maxOf x xs ∈ x :: xs ∧ ∀ y ∈ x :: xs, y ≤ PySem.W.maxOf x xs := by
  intro xs
  induction xs with
  | nil =>
    intro x
    exact ⟨List.mem_singleton.mpr rfl, fun y hy => by rw [List.mem_singleton.mp hy]; exact Int.le_refl _⟩
  | cons z zs ih =>
    intro x
    have e : PySem.W.maxOf x (z :: zs) = PySem.W.maxOf (if decide (x < z) = true then z else x) zs := rfl
    obtain ⟨h1, h2⟩ := ih (if decide (x < z) = true then z else x)
    rw [e]
    generalize PySem.W.maxOf (if decide (x < z) = true then z else x) zs = m at h1 h2 ⊢
    have h3 := h2 _ (List.mem_cons_self ..)
    refine ⟨?_, fun y hy => ?_⟩
    · rcases List.mem_cons.mp h1 with q | q
      · rw [q]
        split
        · exact List.mem_cons_of_mem _ (List.mem_cons_self ..)
        · exact List.mem_cons_self ..
      · exact List.mem_cons_of_mem _ (List.mem_cons_of_mem _ q)
    · have h4 : x ≤ m ∧ z ≤ m := by
        split at h3
        · rename_i q
          have := of_decide_eq_true q
          omega
        · rename_i q
          have : ¬ x < z := fun w => q (decide_eq_true w)
          omega
      rcases List.mem_cons.mp hy with q | q
      · rw [q]
        exact h4.1
      · rcases List.mem_cons.mp q with q | q
        · rw [q]
          exact h4.2
        · exact h2 y (List.mem_cons_of_mem _ q)
theorem cr_maxT {X : Cx} {k : Nat} (hc : X.calm = true) (hr : Room k X.A) : CallR X (.builtin "max") (rMaxT X.K) := by
  intro pins s σ H vs us Q I r h
  obtain ⟨a, ns, rfl, hs, hne, q⟩ := h
  obtain ⟨its, rv, hl, _⟩ := I.tuple hs
  rw [Vals.ref1 r]
  cases ns with
  | nil => cases hne
  | cons x xs =>
    refine PySem.W.max_tuple_datum (x := x) (xs := xs) (I.ok.hd hc) (show s.heap.IsTuple a its.toArray from hl) (by simpa using hold_ints rv) ?_ fun i v h' tk hv hh hk => ?_
    · have := hr.un
      show X.A.units + 1 + 0 < _
      omega
    · obtain ⟨t, rfl⟩ := PySem.W.int_of_holds hh
      obtain ⟨m1, m2⟩ := maxOf_mem xs x
      exact ⟨.int _, H, I.kept hk, ⟨_, rfl⟩, q _ m1 m2⟩
theorem rc_maxT {K : PySem.W.Frag} {H : Hp} {a : Addr} {ns : List Int} (h : SqT K H a (ns.map V.int)) (hn : 0 < ns.length) : ∃ m, m ∈ ns ∧ (∀ y, y ∈ ns → y ≤ m) ∧ RC (rMaxT K) [.ref a] H (.int m) := by
  cases ns with
  | nil => cases hn
  | cons x xs =>
    obtain ⟨m1, m2⟩ := maxOf_mem xs x
    refine ⟨_, m1, m2, fun H1 e Q q => ⟨a, _, rfl, ex_t e h, hn, fun m h1 h2 => ?_⟩⟩
    have e : m = PySem.W.maxOf x xs := Int.le_antisymm (m2 _ h1) (h2 _ m1)
    rw [e]
    exact q H1 (Ex.refl H1)
end Hs
namespace Hs
open PySem PySem.Spec PyProof.Rows L2 Evl
def rLenF : List V → Hp → VK → Prop := fun xs H Q => ∃ a kvs, xs = [V.ref a] ∧ Rd H a (.dK kvs) ∧ Q (.int (List.length (α := Key × V) kvs)) H
theorem call_lenF {X : Cx} : CallR X (.builtin "len") rLenF := by
  intro pins s σ H xs us Q I r h
  obtain ⟨a, kvs, rfl, hr, q⟩ := h
  obtain ⟨u, rfl, ru⟩ := vals1 r
  obtain rfl : u = Value.ref a := ru
  exact d_len I hr fun t s' I' => ⟨.int kvs.length, H, I', ⟨t, rfl⟩, q⟩
section
variable {K : PySem.W.Frag} {σ : L2.St} {H : Hp} {t : TT} {te : TE}
theorem el_lcT {a : Addr} {xs : List V} {tl : TE} {j : Nat} {vs : List Nat} (f : Nat → Bool) (v : Nat → V) (h : Ev tl σ H (.ref a)) (hx : SqT K H a xs) (hz : xs.length ≤ 40000) (hw : ∀ x, wipe ((wipe σ vs).set j (some x)) vs = wipe σ vs)
    (ht : ∀ (i : Nat) (x : V) H1, Ex H H1 → xs[i]? = some x → EvT t ((wipe σ vs).set j (some x)) H1 (f i)) (he : ∀ (i : Nat) (x : V) H1, Ex H H1 → xs[i]? = some x → f i = true → Ev te ((wipe σ vs).set j (some x)) H1 (v i)) :
    EvL (tLc (iTup K tl) (gName j) t te vs) σ H (given xs.length f v) := fun H0 e Q q => h H0 e _ fun H1 e1 => ⟨a, rfl, ⟨xs, ex_t (e.trans e1) hx⟩, fun Dl hD =>
  lc_tup (xs := xs) (Cw H1 f v Dl) ⟨hD, Ex.new hD, upd_same⟩ (fun i H' _ p => ex_t ((e.trans e1).trans p.2.1) hx) (fun i x H' hi p => ⟨hw x, cw_turn p (by have := (List.getElem?_eq_some_iff.mp hi).1; omega) (ht i x H1 (e.trans e1) hi) (fun hf => he i x H1 (e.trans e1) hi hf)⟩)
    (fun H' p => q Dl H' (fresh_back e1 p.1) (e1.trans p.2.1) p.2.2)⟩
theorem et_yes : EvT tYes σ H true := fun H1 _ _ q => q H1 (Ex.refl H1)
theorem ev_maxN {tl : TE} {ns : List Int} {m : Int} (h : EvL tl σ H (iv ns)) (m1 : m ∈ ns) (m2 : ∀ y ∈ ns, y ≤ m) : Ev (tCB (rMax K) (tCons tl tNil)) σ H (.int m) := fun H1 e Q q =>
  h H1 e _ fun p H2 _ e2 h2 => ⟨p, ns, rfl, sq_of h2, List.length_pos_of_mem m1, fun m' h1 h3 => by
    have : m' = m := Int.le_antisymm (m2 _ h1) (h3 _ m1)
    rw [this]
    exact q H2 e2⟩
end
def absI (i : Int) : Int := if i < 0 then -i else i
theorem given_abs {ns : List Int} : given (iv ns).length (fun _ => true) (fun i => V.int (absI (ns.getD i 0))) = iv (ns.map absI) := by
  unfold given
  rw [List.filter_eq_self.mpr fun _ _ => rfl]
  refine List.ext_getElem (by simp) fun i h1 h2 => ?_
  simp at h1
  simp [List.getD_eq_getElem?_getD, List.getElem?_eq_getElem h1]
def InFar (ns : List Int) : Prop := ∀ n ∈ ns, absI n ≤ 1000000
def spPlace (K : PySem.W.Frag) (C : Addr) : Sp := fun vs H Q E => ∃ (a : Addr) (ns : List Int), vs = [.ref a] ∧ SqT K H a (iv ns) ∧ 0 < ns.length ∧ ns.length ≤ 100 ∧ (¬ InFar ns → Flies C "badplace" H E) ∧ (InFar ns → RetV .non H Q)
/-- a new floor with one thing more -/
def RetW (kvs ts : List (Key × V)) (so : Str) (n : Int) (v : V) (H : Hp) (Q : VK) : Prop := ∀ (p q : Addr) (H' : Hp), H p = none → Ex H H' → Fz H' q (putK ts (.inl n) v) → Fz H' p (putK kvs (.inr so) (.ref q)) → Q (.ref p) H'
def spWith : Sp := fun vs H Q _ => ∃ (a b : Addr) (so : Str) (n : Int) (v : V) (kvs ts : List (Key × V)), vs = [.ref a, .str so, .int n, v] ∧ Fz H a kvs ∧ valV kvs (.inr so) = some (.ref b) ∧ Fz H b ts ∧ kvs.length ≤ 10000 ∧ ts.length ≤ 10000 ∧ RetW kvs ts so n v H Q
section
variable {P : Program} {w : World} {K : PySem.W.Frag} {mg : Str → Option Value} {base : Heap} {f C : Addr} {fd : FuncData}
abbrev sPlace : Stmt := top 47
theorem scPlace : FnScope ["place", "number"] ["place"] (defScope sPlace) := ⟨rfl, rfl, rfl, by decide +kernel, rfl, by decide +kernel, by decide +kernel⟩
theorem ok_place (F : FnP K "check_place" sPlace f fd) (Er_BadPlace : ErrF P w K mg base 1 "BadPlace" C "badplace") (g_max : mg "max" = none) (g_abs : mg "abs" = none) (g_FAR : ∃ u, mg "FAR" = some u ∧ RelV (.int 1000000) u) : FnOk P w K mg base (L2.CX P w) 3 f fd ["place"] (spPlace K C) := by
  have nd := scPlace.nd
  obtain ⟨uF, g_FAR⟩ := g_FAR
  refine F.ok scPlace (fun vs H Q E h => ?_) (fun cdv A outer s H vs Q E hr h => ⟨_, (pss_one (ps_if (pt_cmpR op_gt (pe_callB (r := rMax K) (cr_max rfl) (by rfl) g_max (by decide +kernel) (pa_cons (pe_lc (own := [("number", 1)]) rfl nd (pi_tup (pv 0)) (blkOk_by (N := ["place", "number"]) (sc := defScope (Hs.top 47)) (by decide +kernel)) (fun _ _ _ _ _ => (pg_name (i := 1) nd rfl (Or.inl rfl))) (fun _ _ _ _ _ => pts_nil) (fun _ _ _ _ _ => (pe_callB call_abs (by rfl) g_abs (by decide +kernel) (pa_cons (pv 1) pa_nil)))) pa_nil)) (pe_glob (by rfl) g_FAR.1 g_FAR.2) (nomark _)) (pss_one (ps_raise rfl (takes_of rfl rfl rfl rfl) (Hs.pmk_err Er_BadPlace hr (by decide) (by rfl)))) pss_nil)), ?_⟩)
  · obtain ⟨a, ns, rfl, _⟩ := h
    rfl
  · obtain ⟨a, ns, rfl, hS, h0, hz, kE, k⟩ := h
    obtain ⟨x, xs, hx⟩ : ∃ x xs, ns.map absI = x :: xs := by
      cases ns with
      | nil => cases h0
      | cons x xs => exact ⟨_, _, rfl⟩
    obtain ⟨m1, m2⟩ := maxOf_mem xs x
    rw [← hx] at m1 m2
    generalize PySem.W.maxOf x xs = m at m1 m2
    refine s_when (b := decide (1000000 < m)) (et_test (ev_op (ev_maxN (K := K) (ns := ns.map absI) ?l m1 m2) ev_c rv_I0)) (fun ht H1 e1 => ?_) (fun ht H1 e1 => ?_)
    case l =>
      rw [← given_abs]
      exact el_lcT _ _ (ev_var rfl) hS (by rw [List.length_map]; omega) (fun _ => rfl) (fun _ _ _ _ _ => et_yes) (fun i x H1 _ hx _ => by
        obtain ⟨c, rfl, hc⟩ := iv_at hx
        have e : ns.getD i 0 = c := by rw [List.getD_eq_getElem?_getD, hc] <;> rfl
        rw [e]
        exact fun H2 _ Q q => ⟨_, rfl, c, rfl, q H2 (Ex.refl H2)⟩)
    · refine (kE fun g => ?_).ext e1
      have := of_decide_eq_true ht
      obtain ⟨n, hn, rfl⟩ := List.mem_map.mp m1
      have := g n hn
      omega
    · refine k (fun n hn => ?_) H1 e1
      have h1 := of_decide_eq_false ht
      have h2 := m2 _ (List.mem_map.mpr ⟨n, hn, rfl⟩)
      omega
abbrev sWith : Stmt := top 68
theorem scWith : FnScope ["floor", "sort", "number", "thing"] ["floor", "sort", "number", "thing"] (defScope sWith) := ⟨rfl, rfl, rfl, by decide +kernel, rfl, by decide +kernel, by decide +kernel⟩
theorem ok_with (F : FnP K "with_thing" sWith f fd) : FnOk P w K mg base CX0 1 f fd ["floor", "sort", "number", "thing"] spWith := by
  have nd := scWith.nd
  refine F.ok scWith (fun vs H Q E h => ?_) (fun cdv A outer s H vs Q E hr h => ⟨_, PSs.nox (pss_one (ps_ret (Hs.pe_frz (Hs.pe_dstar (pv 0) (pv 1) (Hs.pe_frz (Hs.pe_dstar (pe_dget (Hs.un1 hr) (pv 0) (pv 1) (fun _ _ => rfl)) (pv 2) (pv 3))))))), ?_⟩)
  · obtain ⟨a, b, so, n, v, kvs, ts, rfl, _⟩ := h
    rfl
  · obtain ⟨a, b, so, n, v, kvs, ts, rfl, ha, hv, hb, l1, l2, k⟩ := h
    refine eu_dstarG (σ := [some (.ref a), some (.str so), some (.int n), some v]) (key := .inr so) (G := fun z H2 => ∃ q, z = .ref q ∧ Fz H2 q (putK ts (.inl n) v)) (ev_var rfl) (ev_var rfl) ?inn (fun z H2 H3 ⟨q, ez, hq⟩ e => ⟨q, ez, hq.extF e⟩) ha l1 H (Ex.refl H) _ fun p z H2 hp e2 ⟨q, ez, hq⟩ hz => ?_
    case inn =>
      intro H1 e1 Q' q'
      refine eu_dstar (key := .inl n) (H := H1) (σ := [some (.ref a), some (.str so), some (.int n), some v]) (a := b) (kvs := ts) (z := v) ?d (ev_var rfl) (ev_var rfl) (hb.ext e1) l2 H1 (Ex.refl H1) _ fun p H2 hp e2 h2 => q' _ H2 e2 ⟨p, rfl, h2⟩
      exact fun H2 e2 Q2 q2 => ⟨_, rfl, _, rfl, a, _, rfl, by have z := (ha.ext (e1.trans e2)).get (k := .inr so); rw [hv] at z; exact z, q2 H2 (Ex.refl H2)⟩
    · subst ez
      exact k p q H2 hp e2 hq hz
end
end Hs
namespace Hs
open PySem PySem.Spec PyProof.Rows L2 Evl
def InLit (most : Int) (ns : List Int) : Prop := ∀ n ∈ ns, 0 ≤ n ∧ n ≤ most
def spLightC (K : PySem.W.Frag) (C : Addr) : Sp := fun vs H Q E => ∃ (a : Addr) (most : Int) (ns : List Int), vs = [.ref a, .int most] ∧ SqT K H a (iv ns) ∧ 0 < ns.length ∧ (¬ InLit most ns → Flies C "badlight" H E) ∧ (InLit most ns → RetV .non H Q)
def spRoom (C : Addr) : Sp := fun vs H Q E => ∃ (a : Addr) (m : Int) (kvs : List (Key × V)), vs = [.ref a, .int m] ∧ Fz H a kvs ∧ ((kvs.length : Int) ≥ m → Flies C "full" H E) ∧ ((kvs.length : Int) < m → RetV .non H Q)
/-- a state: its floor, its looks, its coming numbers -/
structure StA (K : PySem.W.Frag) (H : Hp) (s fl lk cm : Addr) (kvs ls cs : List (Key × V)) : Prop where
  t : SqT K H s [.ref fl, .ref lk, .ref cm]
  f : Fz H fl kvs
  l : Fz H lk ls
  c : Fz H cm cs
theorem StA.ext {K : PySem.W.Frag} {H H' : Hp} {s fl lk cm : Addr} {kvs ls cs : List (Key × V)} (h : StA K H s fl lk cm kvs ls cs) (e : Ex H H') : StA K H' s fl lk cm kvs ls cs := ⟨ex_t e h.t, h.f.ext e, h.l.ext e, h.c.ext e⟩
/-- a new state and its number -/
def RetP (kvs ts ls cs : List (Key × V)) (lk : Addr) (so : Str) (n : Int) (v : V) (K : PySem.W.Frag) (H : Hp) (Q : VK) : Prop := ∀ (r s' fl' q cm' : Addr) (H' : Hp), Ex H H' → H' r = some (.tup [.ref s', .int n]) → StA K H' s' fl' lk cm' (putK kvs (.inr so) (.ref q)) ls (putK cs (.inr so) (.int (n + 1))) → Fz H' q (putK ts (.inl n) v) → Q (.ref r) H'
def spPut (K : PySem.W.Frag) (C : Addr) : Sp := fun vs H Q E => ∃ (s fl lk cm b : Addr) (kvs ls cs ts : List (Key × V)) (so : Str) (n : Int) (v : V), vs = [.ref s, .str so, v] ∧ StA K H s fl lk cm kvs ls cs ∧ valV kvs (.inr so) = some (.ref b) ∧ Fz H b ts ∧ valV cs (.inr so) = some (.int n) ∧
  kvs.length ≤ 10000 ∧ ts.length ≤ 10000 ∧ cs.length ≤ 10000 ∧ (12 ≤ ts.length → Flies C "full" H E) ∧ (ts.length < 12 → RetP kvs ts ls cs lk so n v K H Q)
section
variable {P : Program} {w : World} {K : PySem.W.Frag} {mg : Str → Option Value} {base : Heap} {f C : Addr} {fd : FuncData}
abbrev sLightC : Stmt := top 48
theorem scLightC : FnScope ["light", "most"] ["light", "most"] (defScope sLightC) := ⟨rfl, rfl, rfl, by decide +kernel, rfl, by decide +kernel, by decide +kernel⟩
theorem ok_lightC (F : FnP K "check_light" sLightC f fd) (Er_BadLight : ErrF P w K mg base 1 "BadLight" C "badlight") (g_max : mg "max" = none) (g_min : mg "min" = none) : FnOk P w K mg base (L2.CX P w) 3 f fd ["light", "most"] (spLightC K C) := by
  have nd := scLightC.nd
  refine F.ok scLightC (fun vs H Q E h => ?_) (fun cdv A outer s H vs Q E hr h => ⟨_, (pss_one (ps_if (PW.pt (pw_or (pt_cmpR op_lt (pe_callB (r := Hs.rMinT K) (Hs.cr_minT rfl hr) (by rfl) g_min (by decide +kernel) (pa_cons (pv 0) pa_nil)) pe_int (nomark _)) (pw_or1 (pt_cmpR op_gt (pe_callB (r := Hs.rMaxT K) (Hs.cr_maxT rfl hr) (by rfl) g_max (by decide +kernel) (pa_cons (pv 0) pa_nil)) (pv 1) (nomark _))))) (pss_one (ps_raise rfl (takes_of rfl rfl rfl rfl) (Hs.pmk_err Er_BadLight hr (by decide) (by rfl)))) pss_nil)), ?_⟩)
  · obtain ⟨a, m, ns, rfl, _⟩ := h
    rfl
  · obtain ⟨a, most, ns, rfl, hS, h0, kE, k⟩ := h
    obtain ⟨x, xs, rfl⟩ : ∃ x xs, ns = x :: xs := by
      cases ns with
      | nil => cases h0
      | cons x xs => exact ⟨_, _, rfl⟩
    obtain ⟨m1, m2⟩ := maxOf_mem xs x
    obtain ⟨l1, l2⟩ := minOf_mem xs x
    generalize PySem.W.maxOf x xs = m at m1 m2
    generalize PySem.W.minOf x xs = l at l1 l2
    have eL : Ev (tCB (rMinT K) (tCons (tVar 0) tNil)) [some (.ref a), some (.int most)] H (.int l) := fun H1 e Q q => ⟨_, rfl, a, _, rfl, ex_t e hS, h0, fun m' h1 h3 => by
      have : m' = l := Int.le_antisymm (h3 _ l1) (l2 _ h1)
      rw [this]
      exact q H1 (Ex.refl H1)⟩
    have eM : Ev (tCB (rMaxT K) (tCons (tVar 0) tNil)) [some (.ref a), some (.int most)] H (.int m) := fun H1 e Q q => ⟨_, rfl, a, _, rfl, ex_t e hS, h0, fun m' h1 h3 => by
      have : m' = m := Int.le_antisymm (m2 _ h1) (h3 _ m1)
      rw [this]
      exact q H1 (Ex.refl H1)⟩
    refine s_when (et_or (et_test (ev_op eL ev_c rv_I0)) fun _ => et_test (ev_op eM (ev_var rfl) rv_I0)) (fun ht H1 e1 => ?_) (fun ht H1 e1 => ?_)
    · refine (kE fun g => ?_).ext e1
      have g1 := g _ l1
      have g2 := g _ m1
      simp at ht
      omega
    · refine k (fun n hn => ?_) H1 e1
      have g1 := l2 n hn
      have g2 := m2 n hn
      simp at ht
      omega
abbrev sRoom : Stmt := top 78
theorem scRoom : FnScope ["rows", "most"] ["rows", "most"] (defScope sRoom) := ⟨rfl, rfl, rfl, by decide +kernel, rfl, by decide +kernel, by decide +kernel⟩
theorem ok_room (F : FnP K "check_room" sRoom f fd) (Er_Full : ErrF P w K mg base 1 "Full" C "full") (g_len : mg "len" = none) : FnOk P w K mg base (L2.CX P w) 3 f fd ["rows", "most"] (spRoom C) := by
  have nd := scRoom.nd
  refine F.ok scRoom (fun vs H Q E h => ?_) (fun cdv A outer s H vs Q E hr h => ⟨_, (pss_one (ps_if (pt_cmpR op_ge (pe_callB (r := Hs.rLenF) Hs.call_lenF (by rfl) g_len PySem.boot_len (pa_cons (pv 0) pa_nil)) (pv 1) (nomark _)) (pss_one (ps_raise rfl (takes_of rfl rfl rfl rfl) (Hs.pmk_err Er_Full hr (by decide) (by rfl)))) pss_nil)), ?_⟩)
  · obtain ⟨a, m, kvs, rfl, _⟩ := h
    rfl
  · obtain ⟨a, m, kvs, rfl, hF, kE, k⟩ := h
    have eN : Ev (tCB rLenF (tCons (tVar 0) tNil)) [some (.ref a), some (.int m)] H (.int (kvs.length : Int)) := fun H1 e Q q => ⟨_, rfl, a, kvs, rfl, (hF.ext e).rd, q H1 (Ex.refl H1)⟩
    refine s_when (et_test (ev_op eN (ev_var rfl) rv_I0)) (fun ht H1 e1 => ?_) (fun ht H1 e1 => ?_)
    · exact (kE (of_decide_eq_true ht)).ext e1
    · exact k (by have := of_decide_eq_false ht; omega) H1 e1
abbrev sPut : Stmt := top 79
theorem scPut : FnScope ["state", "sort", "thing", "floor", "looks", "coming", "number"] ["state", "sort", "thing"] (defScope sPut) := ⟨rfl, rfl, rfl, by decide +kernel, rfl, by decide +kernel, by decide +kernel⟩
theorem ok_put (F : FnP K "put" sPut f fd) (O_check_room : OwnX P w K mg base 3 "check_room" ["rows", "most"] [] (spRoom C)) (O_with_thing : Own P w K mg base 1 "with_thing" ["floor", "sort", "number", "thing"] spWith) (g_MOST_THINGS : ∃ u, mg "MOST_THINGS" = some u ∧ RelV (.int 12) u) : FnOk P w K mg base (L2.CX P w) 4 f fd ["state", "sort", "thing"] (spPut K C) := by
  have nd := scPut.nd
  obtain ⟨uM, g_MOST_THINGS⟩ := g_MOST_THINGS
  refine F.ok scPut (fun vs H Q E h => ?_) (fun cdv A outer s H vs Q E hr h => ⟨_, (pss_cons (ps_asg (pv 0) (pg_tup rfl (pgs_cons (pg_name (i := 3) nd rfl (.inl rfl)) (pgs_cons (pg_name (i := 4) nd rfl (.inl rfl)) (pgs_cons (pg_name (i := 5) nd rfl (.inl rfl)) pgs_nil)))))
  (pss_cons (ps_expr (Hs.pe_ownT O_check_room hr (by decide) (by rfl) (passes_call (takes_of rfl rfl rfl rfl) (fun _ _ _ _ h => h)) (pa_cons (pe_dget (Hs.un1 hr) (pv 3) (pv 1) (fun _ _ => rfl)) (pa_cons (pe_glob (by rfl) g_MOST_THINGS.1 g_MOST_THINGS.2) pa_nil))))
  (pss_cons (ps_set (i := 6) nd rfl (.inl rfl) (pe_dget (Hs.un1 hr) (pv 5) (pv 1) (fun _ _ => rfl)))
  (pss_one (ps_ret (pe_tup (pa_cons (pe_tup (pa_cons (Hs.pe_own O_with_thing hr (by first | decide | omega) (by rfl) (pa_cons (pv 3) (pa_cons (pv 1) (pa_cons (pv 6) (pa_cons (pv 2) pa_nil))))) (pa_cons (pv 4) (pa_cons (Hs.pe_frz (Hs.pe_dstar (pv 5) (pv 1) (pe_op op_add (pv 6) pe_int))) pa_nil)))) (pa_cons (pv 6) pa_nil)))))))), ?_⟩)
  · obtain ⟨s, fl, lk, cm, b, kvs, ls, cs, ts, so, n, v, rfl, _⟩ := h
    rfl
  · obtain ⟨s, fl, lk, cm, b, kvs, ls, cs, ts, so, n, v, rfl, S, hv, hb, hn, l1, l2, l3, kE, k⟩ := h
    refine ⟨_, rfl, s, _, rfl, S.t, rfl, _, _, rfl, _, _, rfl, _, _, rfl, rfl, ?_⟩
    dsimp only [gName, List.set]
    refine ⟨_, rfl, _, rfl, fl, _, rfl, by have z := S.f.get (k := .inr so); rw [hv] at z; exact z, b, 12, ts, rfl, hb, fun h => kE (by omega), fun h H1 e1 => ?_⟩
    have S1 := S.ext e1
    refine ⟨_, rfl, _, rfl, cm, _, rfl, by have z := S1.c.get (k := .inr so); rw [hn] at z; exact z, ?_⟩
    dsimp only [gName, List.set]
    refine ⟨_, rfl, _, rfl, _, rfl, _, rfl, fl, b, so, n, v, kvs, ts, rfl, S1.f, hv, hb.ext e1, l1, l2, fun p q H2 hp e2 hq hp2 => ⟨_, rfl, ?_⟩⟩
    refine eu_dstar (σ := [some (.ref s), some (.str so), some v, some (.ref fl), some (.ref lk), some (.ref cm), some (.int n)]) (key := .inr so) (z := .int (n + 1)) (ev_var rfl) (ev_var rfl) (ev_op (ev_var rfl) ev_c rv_I0) (S1.c.ext e2) l3 H2 (Ex.refl H2) _ fun p2 H3 hp3 e3 h3 => ⟨sz_of (by simp), fun s' hs' => ⟨_, rfl, sz_of (by simp), fun r hr' => ?_⟩⟩
    have x1 := Ex.new (o := .tup [V.ref p, .ref lk, .ref p2]) hs'
    have x2 := Ex.new (o := .tup [V.ref s', .int n]) hr'
    have e23 := (e3.trans x1).trans x2
    exact k (by omega) r s' p q p2 _ ((e1.trans e2).trans e23) upd_same ⟨st_of (x2 _ _ upd_same), hp2.ext e23, (S1.l.ext e2).ext e23, h3.ext (x1.trans x2)⟩ (hq.ext e23)
end
end Hs
namespace Hs
open PySem PySem.Spec PyProof.Rows L2 Evl
/-- the lamp of one choice at th -/
structure LampA (H : Hp) (th : Addr) (on : Bool) (c : List Int) : Prop where
  ex : ∃ ch c1, H th = some (.tup [.ref ch, .bl on]) ∧ H ch = some (.tup [.ref c1]) ∧ H c1 = some (.tup (iv c))
theorem LampA.ext {H H' : Hp} {th : Addr} {on : Bool} {c : List Int} (h : LampA H th on c) (e : Ex H H') : LampA H' th on c := by
  obtain ⟨ch, c1, h1, h2, h3⟩ := h.ex
  exact ⟨ch, c1, e _ _ h1, e _ _ h2, e _ _ h3⟩
def spDoLamp (K : PySem.W.Frag) (cP cL cF : Addr) : Sp := fun vs H Q E => ∃ (s fl lk cm b : Addr) (kvs ls cs ts : List (Key × V)) (n x y r g u : Int), vs = [.ref s, .int x, .int y, .int r, .int g, .int u] ∧ StA K H s fl lk cm kvs ls cs ∧ valV kvs (.inr "lamp") = some (.ref b) ∧ Fz H b ts ∧ valV cs (.inr "lamp") = some (.int n) ∧
  kvs.length ≤ 10000 ∧ ts.length ≤ 10000 ∧ cs.length ≤ 10000 ∧ (¬ InFar [x, y] → Flies cP "badplace" H E) ∧ (InFar [x, y] → ¬ InLit 1000000 [r, g, u] → Flies cL "badlight" H E) ∧ (InFar [x, y] → InLit 1000000 [r, g, u] → 12 ≤ ts.length → Flies cF "full" H E) ∧
  (InFar [x, y] → InLit 1000000 [r, g, u] → ts.length < 12 → ∀ (th : Addr) (H1 : Hp), Ex H H1 → LampA H1 th true [x, y, r, g, u] → RetP kvs ts ls cs lk "lamp" n (.ref th) K H1 Q)
section
variable {P : Program} {w : World} {K : PySem.W.Frag} {mg : Str → Option Value} {base : Heap} {f cP cL cF : Addr} {fd : FuncData}
abbrev sDoLamp : Stmt := top 80
theorem scDoLamp : FnScope ["state", "across", "up", "red", "green", "blue"] ["state", "across", "up", "red", "green", "blue"] (defScope sDoLamp) := ⟨rfl, rfl, rfl, by decide +kernel, rfl, by decide +kernel, by decide +kernel⟩
theorem ok_doLamp (F : FnP K "do_lamp" sDoLamp f fd) (O_check_place : OwnX P w K mg base 3 "check_place" ["place"] [] (spPlace K cP)) (O_check_light : OwnX P w K mg base 3 "check_light" ["light", "most"] [] (spLightC K cL)) (O_put : OwnX P w K mg base 4 "put" ["state", "sort", "thing"] [] (spPut K cF)) (g_BRIGHT : ∃ u, mg "BRIGHT" = some u ∧ RelV (.int 1000000) u) : FnOk P w K mg base (L2.CX P w) 5 f fd ["state", "across", "up", "red", "green", "blue"] (spDoLamp K cP cL cF) := by
  have nd := scDoLamp.nd
  obtain ⟨uM, g_BRIGHT⟩ := g_BRIGHT
  refine F.ok scDoLamp (fun vs H Q E h => ?_) (fun cdv A outer s H vs Q E hr h => ⟨_, (pss_cons (ps_expr (Hs.pe_ownT O_check_place hr (by decide) (by rfl) (passes_call (takes_of rfl rfl rfl rfl) (fun _ _ _ _ h => h)) (pa_cons (pe_tup (pa_cons (pv 1) (pa_cons (pv 2) pa_nil))) pa_nil)))
  (pss_cons (ps_expr (Hs.pe_ownT O_check_light hr (by decide) (by rfl) (passes_call (takes_of rfl rfl rfl rfl) (fun _ _ _ _ h => h)) (pa_cons (pe_tup (pa_cons (pv 3) (pa_cons (pv 4) (pa_cons (pv 5) pa_nil)))) (pa_cons (pe_glob (by rfl) g_BRIGHT.1 g_BRIGHT.2) pa_nil))))
  (pss_one (ps_ret (Hs.pe_ownT O_put hr (by decide) (by rfl) (passes_call (takes_of rfl rfl rfl rfl) (fun _ _ _ _ h => h)) (pa_cons (pv 0) (pa_cons pe_str (pa_cons (pe_tup (pa_cons (pe_tup (pa_cons (pe_tup (pa_cons (pv 1) (pa_cons (pv 2) (pa_cons (pv 3) (pa_cons (pv 4) (pa_cons (pv 5) pa_nil)))))) pa_nil)) (pa_cons pe_bl pa_nil))) pa_nil)))))))), ?_⟩)
  · obtain ⟨s, fl, lk, cm, b, kvs, ls, cs, ts, n, x, y, r, g, u, rfl, _⟩ := h
    rfl
  · obtain ⟨s, fl, lk, cm, b, kvs, ls, cs, ts, n, x, y, r, g, u, rfl, S, hv, hb, hn, l1, l2, l3, kP, kL, kF, k⟩ := h
    refine ⟨_, rfl, _, rfl, sz_of (by simp), fun t1 ht1 => ⟨t1, [x, y], rfl, st_of upd_same, by simp, by simp, fun h => (kP h).ext (Ex.new ht1), fun hF H1 e1 => ?_⟩⟩
    have e01 := (Ex.new (o := .tup [V.int x, .int y]) ht1).trans e1
    refine ⟨_, rfl, _, rfl, _, rfl, sz_of (by simp), fun t2 ht2 => ⟨t2, 1000000, [r, g, u], rfl, st_of upd_same, by simp, fun h => (kL hF h).ext (e01.trans (Ex.new ht2)), fun hL H2 e2 => ?_⟩⟩
    have e02 := (e01.trans (Ex.new (o := .tup [V.int r, .int g, .int u]) ht2)).trans e2
    refine ⟨_, rfl, _, rfl, _, rfl, _, rfl, _, rfl, _, rfl, sz_of (by simp), fun c1 hc1 => ⟨sz_of (by simp), fun ch hch => ⟨sz_of (by simp), fun th hth => ?_⟩⟩⟩
    have x1 := Ex.new (o := .tup (iv [x, y, r, g, u])) hc1
    have x2 := Ex.new (o := .tup [V.ref c1]) hch
    have x3 := Ex.new (o := .tup [V.ref ch, .bl true]) hth
    have e05 := e02.trans ((x1.trans x2).trans x3)
    refine ⟨s, fl, lk, cm, b, kvs, ls, cs, ts, "lamp", n, .ref th, rfl, S.ext e05, hv, hb.ext e05, hn, l1, l2, l3, fun h => (kF hF hL h).ext e05, fun h => k hF hL h th _ e05 ⟨ch, c1, upd_same, x3 _ _ upd_same, (x2.trans x3) _ _ upd_same⟩⟩
end
end Hs
namespace Hs
open PySem PySem.Spec PyProof.Rows L2 Evl
def sortsV : List V := [.str "lamp", .str "post", .str "pane"]
def spThing (K : PySem.W.Frag) : Sp := fun vs H Q _ => ∃ (a b : Addr) (so : Str) (n : Int) (v : V) (kvs ts : List (Key × V)), vs = [.ref a, .str so, .int n] ∧ Fz H a kvs ∧ inV (.str so) sortsV = true ∧ valV kvs (.inr so) = some (.ref b) ∧ Fz H b ts ∧ valV ts (.inl n) = some v ∧ RetV v H Q
def spSwitch (K : PySem.W.Frag) : Sp := fun vs H Q _ => ∃ (s fl lk cm b th : Addr) (kvs ls cs ts : List (Key × V)) (n : Int) (on : Bool) (c : List Int), vs = [.ref s, .int n] ∧ StA K H s fl lk cm kvs ls cs ∧ valV kvs (.inr "lamp") = some (.ref b) ∧ Fz H b ts ∧ valV ts (.inl n) = some (.ref th) ∧ LampA H th on c ∧ kvs.length ≤ 10000 ∧ ts.length ≤ 10000 ∧
  ∀ (r s' fl' q th' : Addr) (H' : Hp), Ex H H' → LampA H' th' (!on) c → H' r = some (.tup [.ref s', .non]) → StA K H' s' fl' lk cm (putK kvs (.inr "lamp") (.ref q)) ls cs → Fz H' q (putK ts (.inl n) (.ref th')) → Q (.ref r) H'
section
variable {P : Program} {w : World} {K : PySem.W.Frag} {mg : Str → Option Value} {base : Heap} {f C S : Addr} {fd : FuncData}
abbrev sThing : Stmt := top 70
theorem scThing : FnScope ["floor", "sort", "number"] ["floor", "sort", "number"] (defScope sThing) := ⟨rfl, rfl, rfl, by decide +kernel, rfl, by decide +kernel, by decide +kernel⟩
theorem ok_thing (F : FnP K "thing_of" sThing f fd) (g_SORTS : mg "SORTS" = some (.ref S) ∧ RelV (.ref S) (.ref S)) (hS : ∀ H, SqT K H S sortsV) : FnOk P w K mg base CX0 1 f fd ["floor", "sort", "number"] (spThing K) := by
  have nd := scThing.nd
  refine F.ok scThing (fun vs H Q E h => ?_) (fun cdv A outer s H vs Q E hr h => ⟨_, PSs.nox (pss_cons (ps_if (pt_cmpR op_notIn_seq (pv 1) (pe_glob (by rfl) g_SORTS.1 g_SORTS.2) (by rfl)) (pss_one ps_never) pss_nil)
  (pss_cons (ps_if (pt_cmp (pc_dnotin (Hs.un1 hr) (pv 2) (pe_dget (Hs.un1 hr) (pv 0) (pv 1) (fun _ _ => rfl)))) (pss_one ps_never) pss_nil)
  (pss_one (ps_ret (pe_dget (Hs.un1 hr) (pe_dget (Hs.un1 hr) (pv 0) (pv 1) (fun _ _ => rfl)) (pv 2) (fun _ _ => rfl)))))), ?_⟩)
  · obtain ⟨a, b, so, n, v, kvs, ts, rfl, _⟩ := h
    rfl
  · obtain ⟨a, b, so, n, v, kvs, ts, rfl, ha, hso, hv, hb, hn, k⟩ := h
    have gF : ∀ {H1 : Hp}, Ex H H1 → DGet H1 a (.str so) (some (.ref b)) := fun e => by
      have z := (ha.ext e).get (k := .inr so)
      rw [hv] at z
      exact z
    have gT : ∀ {H1 : Hp}, Ex H H1 → DGet H1 b (.int n) (some v) := fun e => by
      have z := (hb.ext e).get (k := .inl n)
      rw [hn] at z
      exact z
    refine q_when (b := false) (fun H1 e1 Q' q => ⟨_, rfl, S, sortsV, rfl, .inr (hS H1), rfl, rfl, false, by rw [hso] <;> rfl, q H1 (Ex.refl H1)⟩) (fun ht => Bool.noConfusion ht) (fun _ H1 e1 => ?_)
    refine q_when (b := false) (fun H2 e2 Q' q => ⟨_, rfl, _, rfl, _, rfl, a, _, rfl, gF (e1.trans e2), b, _, rfl, gT (e1.trans e2), false, rfl, q H2 (Ex.refl H2)⟩) (fun ht => Bool.noConfusion ht) (fun _ H2 e2 => ?_)
    exact ⟨_, rfl, _, rfl, a, _, rfl, gF (e1.trans e2), _, rfl, b, _, rfl, gT (e1.trans e2), k H2 (e1.trans e2)⟩
abbrev sSwitch : Stmt := top 85
theorem scSwitch : FnScope ["state", "number", "floor", "looks", "coming", "choices", "on"] ["state", "number"] (defScope sSwitch) := ⟨rfl, rfl, rfl, by decide +kernel, rfl, by decide +kernel, by decide +kernel⟩
theorem ok_switch (F : FnP K "do_switch" sSwitch f fd) (O_thing_of : Own P w K mg base 1 "thing_of" ["floor", "sort", "number"] (spThing K)) (O_with_thing : Own P w K mg base 1 "with_thing" ["floor", "sort", "number", "thing"] spWith) : FnOk P w K mg base (L2.CX P w) 2 f fd ["state", "number"] (spSwitch K) := by
  have nd := scSwitch.nd
  refine F.ok scSwitch (fun vs H Q E h => ?_) (fun cdv A outer s H vs Q E hr h => ⟨_, (pss_cons (ps_asg (pv 0) (pg_tup rfl (pgs_cons (pg_name (i := 2) nd rfl (.inl rfl)) (pgs_cons (pg_name (i := 3) nd rfl (.inl rfl)) (pgs_cons (pg_name (i := 4) nd rfl (.inl rfl)) pgs_nil)))))
  (pss_cons (ps_asg (Hs.pe_own O_thing_of hr (by first | decide | omega) (by rfl) (pa_cons (pv 2) (pa_cons pe_str (pa_cons (pv 1) pa_nil)))) (pg_tup rfl (pgs_cons (pg_name (i := 5) nd rfl (.inl rfl)) (pgs_cons (pg_name (i := 6) nd rfl (.inl rfl)) pgs_nil))))
  (pss_one (ps_ret (pe_tup (pa_cons (pe_tup (pa_cons (Hs.pe_own O_with_thing hr (by first | decide | omega) (by rfl) (pa_cons (pv 2) (pa_cons pe_str (pa_cons (pv 1) (pa_cons (pe_tup (pa_cons (pv 5) (pa_cons (pe_not (pv 6)) pa_nil))) pa_nil))))) (pa_cons (pv 3) (pa_cons (pv 4) pa_nil)))) (pa_cons pe_non pa_nil))))))), ?_⟩)
  · obtain ⟨s, fl, lk, cm, b, th, kvs, ls, cs, ts, n, on, c, rfl, _⟩ := h
    rfl
  · obtain ⟨s, fl, lk, cm, b, th, kvs, ls, cs, ts, n, on, c, rfl, S, hv, hb, hn, hL, l1, l2, k⟩ := h
    refine ⟨_, rfl, s, _, rfl, S.t, rfl, _, _, rfl, _, _, rfl, _, _, rfl, rfl, ?_⟩
    dsimp only [gName, List.set]
    refine ⟨_, rfl, _, rfl, fl, b, "lamp", n, .ref th, kvs, ts, rfl, S.f, by decide +kernel, hv, hb, hn, fun H1 e1 => ?_⟩
    obtain ⟨ch, c1, h1, h2, h3⟩ := (hL.ext e1).ex
    refine ⟨th, _, rfl, st_of h1, rfl, _, _, rfl, _, _, rfl, rfl, ?_⟩
    dsimp only [gName, List.set]
    have S1 := S.ext e1
    refine ⟨_, rfl, _, rfl, _, rfl, _, rfl, on, rfl, sz_of (by simp), fun th' hth' => ?_⟩
    have x1 := Ex.new (o := .tup [V.ref ch, .bl (!on)]) hth'
    refine ⟨fl, b, "lamp", n, .ref th', kvs, ts, rfl, S1.f.ext x1, hv, (hb.ext e1).ext x1, l1, l2, fun p q H2 hp e2 hq hp2 => ⟨_, rfl, _, rfl, sz_of (by simp), fun s' hs' => ⟨sz_of (by simp), fun r hr' => ?_⟩⟩⟩
    have x2 := Ex.new (o := .tup [V.ref p, .ref lk, .ref cm]) hs'
    have x3 := Ex.new (o := .tup [V.ref s', .non]) hr'
    have e23 := x2.trans x3
    have e13 := (x1.trans e2).trans e23
    exact k r s' p q th' _ (e1.trans e13) ⟨ch, c1, (e2.trans e23) _ _ upd_same, e13 _ _ h2, e13 _ _ h3⟩ upd_same ⟨st_of (x3 _ _ upd_same), hp2.ext e23, (S1.l.ext (x1.trans e2)).ext e23, (S1.c.ext (x1.trans e2)).ext e23⟩ (hq.ext e23)
end
end Hs
namespace Hs
open PySem PySem.Spec PyProof.Rows L2 Evl
/-- d[z], d a dict of the written part with texts as keys -/
def tKdGet (K : PySem.W.Frag) (d : Addr) (td ty : TE) : TE := fun σ H Q => td σ H fun x H1 => ty σ H1 fun y H2 => ∃ (z : Str) (u0 : Value) (v0 : V), x = .ref d ∧ y = .str z ∧ PySem.W.nsIn K d z = some (some u0) ∧ RelV v0 u0 ∧ Q v0 H2
theorem pe_kdget {X : Cx} {d : Addr} {es : Array DictEntry} {n : Nat} {o i : Expr} {pos : Pos} {td ty : TE} (D : KDict X.K X.w d es n) (ho : PE X o td) (hi : PE X i ty) (hs : NoSl i) : PE X (.Subscript o i pos) (tKdGet X.K d td ty) := by
  refine ⟨fun pins s σ H Q I h => ?_⟩
  refine subD_of PySem.F.slot_dict_getitem.lookup hs (thn (ho.run pins s σ H _ I h) fun u s1 ⟨x, H1, I1, rx, q1⟩ => thn (hi.run pins s1 σ H1 _ I1 q1) fun iv s2 ⟨y, H2, I2, ry, z, u0, v0, ex, ey, e, r, q2⟩ => ?_)
  subst ex
  obtain rfl : u = Value.ref d := rx
  exact ⟨kd_type D I2, op_item_kd D pins s2 σ H2 (.ref d) y (.ref d) iv Q I2 rfl ry ⟨z, u0, v0, rfl, ey, e, r, q2⟩⟩
/-! ### a deed done: by its word, the doer's promise S -/
def spApplied (K : PySem.W.Frag) (dF dD : Addr) (S : Addr → Option Sp) : Sp := fun vs H Q E => ∃ (s d f : Addr) (wd fm : Str) (tk : Tok) (args : List V) (sp : Sp), vs = [.ref s, .ref d] ∧ SqT K H d (.str wd :: args) ∧ PySem.W.nsIn K dF wd = some (some (.str fm tk)) ∧ fm.length = args.length ∧ args.length ≤ 100 ∧
  PySem.W.nsIn K dD wd = some (some (.ref f)) ∧ S f = some sp ∧ ∀ H', Ex H H' → sp (.ref s :: args) H' Q E
section
variable {P : Program} {w : World} {K : PySem.W.Frag} {mg : Str → Option Value} {base : Heap} {f dF dD : Addr} {fd : FuncData} {esF esD : Array DictEntry} {nF nD : Nat} {S : Addr → Option Sp}
abbrev sApplied : Stmt := top 93
theorem scApplied : FnScope ["state", "deed", "doer", "things"] ["state", "deed"] (defScope sApplied) := ⟨rfl, rfl, rfl, by decide +kernel, rfl, by decide +kernel, by decide +kernel⟩
theorem ok_applied (F : FnP K "applied" sApplied f fd) (DF : KDict K w dF esF nF) (DD : KDict K w dD esD nD) (HS : ∀ f sp, S f = some sp → HeldX P w K mg base 5 f sp) (g_len : mg "len" = none) (g_FORMS : mg "FORMS" = some (.ref dF) ∧ RelV (.ref dF) (.ref dF)) (g_DOERS : mg "DOERS" = some (.ref dD) ∧ RelV (.ref dD) (.ref dD)) :
    FnOk P w K mg base (L2.CX P w) 6 f fd ["state", "deed"] (spApplied K dF dD S) := by
  have nd := scApplied.nd
  refine F.ok scApplied (fun vs H Q E h => ?_) (fun cdv A outer s H vs Q E hr h => ⟨_, (pss_cons (ps_if (PW.pt (pw_or (pt_cmpR op_eq (pe_callB (r := Evl.rLenS K) call_len_seq (by rfl) g_len PySem.boot_len (pa_cons (pv 1) pa_nil)) pe_int (nomark _)) (pw_or (pt_cmpR (op_notIn_kd DF) (pe_ix (r := rIxT K) ix_tup (pv 1) pe_int (fun _ _ => rfl)) (pe_glob (by rfl) g_FORMS.1 g_FORMS.2) (by rfl)) (pw_or1 (pt_cmpR op_ne (pe_callB (r := Evl.rLenS K) call_len_seq (by rfl) g_len PySem.boot_len (pa_cons (pv 1) pa_nil)) (pe_op op_add pe_int (pe_callB call_len_str (by rfl) g_len PySem.boot_len (pa_cons (Hs.pe_kdget DF (pe_glob (by rfl) g_FORMS.1 g_FORMS.2) (pe_ix (r := rIxT K) ix_tup (pv 1) pe_int (fun _ _ => rfl)) (fun _ _ => rfl)) pa_nil))) (nomark _)))))) (pss_one ps_never) pss_nil)
  (pss_cons (ps_set (i := 2) nd rfl (.inl rfl) (Hs.pe_kdget DD (pe_glob (by rfl) g_DOERS.1 g_DOERS.2) (pe_ix (r := rIxT K) ix_tup (pv 1) pe_int (fun _ _ => rfl)) (fun _ _ => rfl)))
  (pss_cons (ps_set (i := 3) nd rfl (.inl rfl) (pe_slice sl_tupA (pv 1) (po_some pe_int) po_none))
  (pss_one (ps_ret (Hs.pe_callAS (i := 2) (E := E) HS hr (by decide) rfl (.inl rfl) (passes_call (takes_of rfl rfl rfl rfl) (fun _ _ _ _ h => h)) (pa_cons (pv 0) (StX.pa_star (pv 3) pa_nil)))))))), ?_⟩)
  · obtain ⟨s, d, f, wd, fm, tk, args, sp, rfl, _⟩ := h
    rfl
  · obtain ⟨s, d, f, wd, fm, tk, args, sp, rfl, hd, hF, hl, hz, hD, hS, k⟩ := h
    have hz2 : fm.length ≤ sizeLine := by
      rw [hl, sizeLine_eq]
      omega
    have at0 : atI (.str wd :: args) 0 = some (V.str wd) := atI_nat (xs := .str wd :: args) (j := 0) rfl
    refine q_when (b := false) (fun H1 e1 Q' q => ?_) (fun ht => Bool.noConfusion ht) (fun _ H1 e1 => ?_)
    · have hd1 := ex_t e1 hd
      refine ⟨_, rfl, d, _, rfl, .inr hd1, rfl, false, ?_, ?_⟩
      · rw [decide_eq_false (fun z => by injection z with z; rw [List.length_cons] at z; omega)]
      · refine ite_F rfl ⟨_, rfl, d, _, _, _, rfl, rfl, hd1, at0, wd, _, rfl, rfl, hF, false, rfl, ite_F rfl ?_⟩
        refine ⟨_, rfl, d, _, rfl, .inr hd1, _, rfl, d, _, _, _, rfl, rfl, hd1, at0, wd, _, .str fm, rfl, rfl, hF, ⟨tk, rfl⟩, fm, rfl, hz2, _, _, rfl, rfl, rfl, false, ?_, q H1 (Ex.refl H1)⟩
        rw [hl, List.length_cons]
        simp
        omega
    · have hd1 := ex_t e1 hd
      refine ⟨_, rfl, d, _, _, _, rfl, rfl, hd1, at0, wd, _, .ref f, rfl, rfl, hD, rfl, ?_⟩
      dsimp only [gName, List.set]
      have s1 : HT.sIx (V.str wd :: args).length 0 (some 1) = 1 := by
        have z := HT.sIx_nat (V.str wd :: args).length 0 1
        rw [List.length_cons] at z ⊢
        rw [show ((1 : Nat) : Int) = 1 from rfl] at z
        rw [z]
        omega
      have s2 : cutV (V.str wd :: args) (some 1) none = args := by
        unfold cutV
        rw [s1, HT.sIx_none]
        simp
      refine ⟨_, rfl, 1, rfl, d, _, rfl, hd1, fun hw => ?_, fun _ th hth => ?_⟩
      · have z := hw.1
        rw [s1] at z
        cases z
      · rw [s2]
        refine ⟨f, sp, rfl, hS, _, rfl, _, rfl, th, args, rfl, .inl (st_of upd_same), ?_⟩
        show sp (V.ref s :: (args ++ [])) (upd H1 th (.tup args)) Q E
        rw [List.append_nil]
        exact k _ (e1.trans (Ex.new hth))
end
end Hs
namespace Hs
open PySem PySem.Spec PyProof.Rows L2 Evl
/-! ### the house -/
/-- what the house is told a deed by: spA, what applied promises -/
def spDo (C : Addr) (spA : Sp) : Sp := fun vs H Q E => ∃ (h d dx s p q : Addr) (fs : List (Str × V)) (ps qs : List V), vs = [.ref h, .ref d] ∧ H h = some (.ins C dx fs) ∧ fs.lookup ("state" : Str) = some (.ref s) ∧ fs.lookup ("past" : Str) = some (.ref p) ∧ fs.lookup ("ahead" : Str) = some (.ref q) ∧ H p = some (.lst ps) ∧ H q = some (.lst qs) ∧ p ≠ q ∧ ps.length ≤ 1000 ∧ fs.length < 1000 ∧
  ∀ Q' : VK, (∀ (r : Addr) (s' told : V) (H1 : Hp), H1 r = some (.tup [s', told]) → H1 h = some (.ins C dx fs) → H1 p = some (.lst ps) → H1 q = some (.lst qs) →
    (∀ t, H1 t = none → Q told (upd (upd (upd (upd H1 t (.tup [.ref d, .ref s])) p (.lst (ps ++ [.ref t]))) q (.lst [])) h (.ins C dx (putF "state" s' fs)))) → Q' (.ref r) H1) → spA [.ref s, .ref d] H Q' E
/-- the class House, as it stands -/
structure HouseC (K : PySem.W.Frag) (C : Addr) : Prop where
  c : Cls K C
  s : NoAttr K C "state"
  p : NoAttr K C "past"
  a : NoAttr K C "ahead"
  t : NoAttr K C "trying"
section
variable {P : Program} {w : World} {K : PySem.W.Frag} {mg : Str → Option Value} {base : Heap} {f C : Addr} {fd : FuncData} {spA : Sp}
abbrev sDo : Stmt := (inClass (Hs.top 102) 1)
theorem scDo : FnScope ["self", "deed", "state", "told"] ["self", "deed"] (defScope sDo) := ⟨rfl, rfl, rfl, by decide +kernel, rfl, by decide +kernel, by decide +kernel⟩
theorem ok_do (F : FunD K "do" "House.do" (defArgs sDo) (defBody sDo) (defScope sDo) [] [] f fd) (hC : HouseC K C) (O_applied : OwnX P w K mg base 6 "applied" ["state", "deed"] [] spA) : FnOk P w K mg base (L2.CX P w) 7 f fd ["self", "deed"] (spDo C spA) := by
  have nd := scDo.nd
  refine F.ok scDo (fun vs H Q E h => ?_) (fun cdv A outer s H vs Q E hr h => ⟨_, (pss_cons (ps_asg (Hs.pe_ownT O_applied hr (by decide) (by rfl) (passes_call (takes_of rfl rfl rfl rfl) (fun _ _ _ _ h => h)) (pa_cons (pe_fld (pv 0) (by rfl)) (pa_cons (pv 1) pa_nil))) (pg_tup rfl (pgs_cons (pg_name (i := 2) nd rfl (.inl rfl)) (pgs_cons (pg_name (i := 3) nd rfl (.inl rfl)) pgs_nil))))
  (pss_cons (ps_expr (pe_bm PySem.F.plainAttrs_list PySem.F.slot_list_append PySem.F.type_list_append mt_append (pe_fld (pv 0) (by rfl)) (pa_cons (pe_tup (pa_cons (pv 1) (pa_cons (pe_fld (pv 0) (by rfl)) pa_nil))) pa_nil)))
  (pss_cons (ps_expr (pe_bm0 PySem.F.plainAttrs_list PySem.F.slot_list_clear PySem.F.type_list_clear mt_clear (pe_fld (pv 0) (by rfl))))
  (pss_cons (ps_fld (pv 0) (pv 2) (by rfl))
  (pss_one (ps_ret (pv 3))))))), ?_⟩)
  · obtain ⟨h, d, dx, s, p, q, fs, ps, qs, rfl, _⟩ := h
    rfl
  · obtain ⟨h, d, dx, s, p, q, fs, ps, qs, rfl, hh, ls, lp, lq, hp, hq, npq, zp, zf, kk⟩ := h
    refine ⟨_, rfl, h, C, dx, fs, _, rfl, hh, hC.c, hC.s, ls, _, rfl, ?_⟩
    refine kk _ fun r s' told H1 hr1 hh1 hp1 hq1 fin => ⟨r, _, rfl, st_of hr1, rfl, _, _, rfl, _, _, rfl, rfl, ?_⟩
    dsimp only [gName, List.set]
    refine ⟨_, rfl, h, C, dx, fs, _, rfl, hh1, hC.c, hC.p, lp, .inl ⟨rfl, _, sq_of hp1⟩, _, rfl, _, rfl, h, C, dx, fs, _, rfl, hh1, hC.c, hC.s, ls, sz_of (by simp), fun t ht => ?_⟩
    have nh : ∀ {x : Addr} {ys : List V}, H1 x = some (.lst ys) → h ≠ x := fun hx z => by
      rw [← z, hh1] at hx
      cases hx
    have npt : p ≠ t := ne_of_none hp1 ht
    have nqt : q ≠ t := ne_of_none hq1 ht
    have nht : h ≠ t := ne_of_none hh1 ht
    refine ⟨p, ps, _, rfl, rfl, by rw [upd_ne npt]; exact hp1, by rw [sizeLine_eq]; omega, ?_⟩
    have hh2 : upd (upd H1 t (.tup [.ref d, .ref s])) p (.lst (ps ++ [.ref t])) h = some (.ins C dx fs) := by rw [upd_ne (nh hp1), upd_ne nht]; exact hh1
    have hq2 : upd (upd H1 t (.tup [.ref d, .ref s])) p (.lst (ps ++ [.ref t])) q = some (.lst qs) := by rw [upd_ne (Ne.symm npq), upd_ne nqt]; exact hq1
    refine ⟨_, rfl, h, C, dx, fs, _, rfl, hh2, hC.c, hC.a, lq, .inl ⟨rfl, _, sq_of hq2⟩, q, qs, rfl, rfl, hq2, ?_⟩
    have hh3 : upd (upd (upd H1 t (.tup [.ref d, .ref s])) p (.lst (ps ++ [.ref t]))) q (.lst []) h = some (.ins C dx fs) := by rw [upd_ne (nh hq1)]; exact hh2
    refine ⟨_, rfl, _, rfl, h, C, dx, fs, rfl, hh3, hC.c, hC.s, zf, _, rfl, fin t ht⟩
end
end Hs
namespace Hs
open PySem PySem.Spec PyProof.Rows L2 Evl
/-- an own method by its promise -/
structure MetX (P : Program) (w : World) (K : PySem.W.Frag) (mg : Str → Option Value) (base : Heap) (k : Nat) (C : Addr) (m : Str) (ps : List Str) (dvs : List V) (sp : Sp) : Prop where
  c : Cls K C
  ex : ∃ (f : Addr) (fd : FuncData) (ds : List Value), FnOk P w K mg base (L2.CX P w) k f fd ps sp ∧ Meth K C m f ∧ Vals dvs ds ∧ Binds K fd ps ds
theorem pe_metX {X : Cx} {k j : Nat} {C : Addr} {m : Str} {ps : List Str} {dvs : List V} {sp : Sp} {E : XK} {pos apos : Pos} {e o : Expr} {es : List Expr} {ta : TE} {t : TA} {pl : Sem Bool} (M : MetX X.prog X.w X.K X.mg X.base k C m ps dvs sp) (hr : Room j X.A) (hk : k ≤ j) (hx : Passes (L2.CX X.prog X.w) X E) (he : PE X o ta) (ha : PA X (e :: es) t)
    (hst : starEach (e :: es) X.env = (false, eval e X.env) :: starEach es X.env := by rfl) (hpl : (backTo pos (starEach es X.env)).any (·.1) = false := by rfl)
    (ht : eval (.Call (.Attribute o m apos) (e :: es) [] pos) X.env = (do
      let ov ← eval o X.env
      standAt apos.atName
      let (f, first) ← holding [ov] (getMethod ov m pl)
      callWith pos f first (backTo pos (starEach (e :: es) X.env)) (backToKw pos (keywordEach [] X.env))) := by rfl) :
    PE X (.Call (.Attribute o m apos) (e :: es) [] pos) (tMeth C m sp dvs E ta t) := by
  obtain ⟨f, fd, ds, F, hm, hd, hb⟩ := M.ex
  exact pe_meth he M.c hm F (hr.mono hk) hb hd hx ha hst hpl ht
def spLampM (K : PySem.W.Frag) (C : Addr) (spD : Sp) : Sp := fun vs H Q E => ∃ (h lt dx : Addr) (fs : List (Str × V)) (x y : Int) (c : List V), vs = [.ref h, .int x, .int y, .ref lt] ∧ SqT K H lt c ∧ c.length ≤ 100 ∧ H h = some (.ins C dx fs) ∧ fs.lookup ("do" : Str) = none ∧
  ∀ d, H d = none → spD [.ref h, .ref d] (upd H d (.tup (.str "lamp" :: .int x :: .int y :: c))) Q E
def spSwitchM (C : Addr) (spD : Sp) : Sp := fun vs H Q E => ∃ (h dx : Addr) (fs : List (Str × V)) (n : Int), vs = [.ref h, .int n] ∧ H h = some (.ins C dx fs) ∧ fs.lookup ("do" : Str) = none ∧ ∀ d, H d = none → spD [.ref h, .ref d] (upd H d (.tup [.str "switch", .int n])) Q E
section
variable {P : Program} {w : World} {K : PySem.W.Frag} {mg : Str → Option Value} {base : Heap} {f C : Addr} {fd : FuncData} {spD : Sp}
abbrev sLampM : Stmt := (inClass (Hs.top 102) 2)
theorem scLampM : FnScope ["self", "across", "up", "light"] ["self", "across", "up", "light"] (defScope sLampM) := ⟨rfl, rfl, rfl, by decide +kernel, rfl, by decide +kernel, by decide +kernel⟩
theorem ok_lampM {kws : List (Str × V)} (F : FunD K "lamp" "House.lamp" (defArgs sLampM) (defBody sLampM) (defScope sLampM) [] kws f fd) (M_do : MetX P w K mg base 7 C "do" ["self", "deed"] [] spD) : FnOk P w K mg base (L2.CX P w) 8 f fd ["self", "across", "up", "light"] (spLampM K C spD) := by
  have nd := scLampM.nd
  refine F.ok scLampM (fun vs H Q E h => ?_) (fun cdv A outer s H vs Q E hr h => ⟨_, (pss_one (ps_ret (Hs.pe_metX M_do hr (by decide) (passes_call (takes_of rfl rfl rfl rfl) (fun _ _ _ _ h => h)) (pv 0) (pa_cons (pe_tup (pa_cons pe_str (pa_cons (pv 1) (pa_cons (pv 2) (StX.pa_star (pv 3) pa_nil))))) pa_nil)))), ?_⟩)
  · obtain ⟨h, lt, dx, fs, x, y, c, rfl, _⟩ := h
    rfl
  · obtain ⟨h, lt, dx, fs, x, y, c, rfl, hc, hz, hh, hf, k⟩ := h
    refine ⟨_, rfl, h, dx, fs, rfl, hh, hf, _, rfl, _, rfl, _, rfl, lt, c, rfl, .inl hc, ?_, fun d hd => ?_⟩
    · rw [List.append_nil, sizeLine_eq]
      simp only [List.length_cons]
      omega
    · rw [List.append_nil]
      exact k d hd
abbrev sSwitchM : Stmt := (inClass (Hs.top 102) 7)
theorem scSwitchM : FnScope ["self", "number"] ["self", "number"] (defScope sSwitchM) := ⟨rfl, rfl, rfl, by decide +kernel, rfl, by decide +kernel, by decide +kernel⟩
theorem ok_switchM (F : FunD K "switch" "House.switch" (defArgs sSwitchM) (defBody sSwitchM) (defScope sSwitchM) [] [] f fd) (M_do : MetX P w K mg base 7 C "do" ["self", "deed"] [] spD) : FnOk P w K mg base (L2.CX P w) 8 f fd ["self", "number"] (spSwitchM C spD) := by
  have nd := scSwitchM.nd
  refine F.ok scSwitchM (fun vs H Q E h => ?_) (fun cdv A outer s H vs Q E hr h => ⟨_, (pss_one (ps_ret (Hs.pe_metX M_do hr (by decide) (passes_call (takes_of rfl rfl rfl rfl) (fun _ _ _ _ h => h)) (pv 0) (pa_cons (pe_tup (pa_cons pe_str (pa_cons (pv 1) pa_nil))) pa_nil)))), ?_⟩)
  · obtain ⟨h, dx, fs, n, rfl, _⟩ := h
    rfl
  · obtain ⟨h, dx, fs, n, rfl, hh, hf, k⟩ := h
    exact ⟨_, rfl, h, dx, fs, rfl, hh, hf, _, rfl, sz_of (by simp), fun d hd => k d hd⟩
end
end Hs
namespace Hs
open PySem PySem.Spec PyProof.Rows L2 Evl
theorem pe_own0 {X : Cx} {k j : Nat} {x : Str} {sp : Sp} {p pos : Pos} (O : Own X.prog X.w X.K X.mg X.base k x [] sp) (hr : Room j X.A) (hk : k ≤ j) (hg : Gl X x) (hdb : (x == ("__debug__" : Str)) = false := by decide) : PE X (.Call (.Name x p) [] [] pos) (tCall sp [] E0 tNil) := by
  obtain ⟨f, fd, F, m, kp, b⟩ := O.ex
  exact pe_call0 F (hr.mono hk) hg m kp b .nil pass0 hdb
/-- a bare floor at p -/
structure BareA (H : Hp) (p : Addr) : Prop where
  ex : ∃ q1 q2 q3, Fz H p [(.inr "lamp", .ref q1), (.inr "post", .ref q2), (.inr "pane", .ref q3)] ∧ Fz H q1 [] ∧ Fz H q2 [] ∧ Fz H q3 []
def spBare : Sp := fun vs H Q _ => vs = [] ∧ ∀ p H', H p = none → Ex H H' → BareA H' p → Q (.ref p) H'
section
variable {P : Program} {w : World} {K : PySem.W.Frag} {mg : Str → Option Value} {base : Heap} {f C S : Addr} {fd : FuncData}
abbrev sBare : Stmt := top 67
theorem scBare : FnScope ["sort"] [] (defScope sBare) := ⟨rfl, rfl, rfl, by decide +kernel, rfl, by decide +kernel, by decide +kernel⟩
def sortsS : List Str := ["lamp", "post", "pane"]
/-- the floor in the making: i of the three -/
def BareI (H0 H : Hp) (D : Addr) (i : Nat) : Prop := Ex H0 H ∧ ∃ qs : List Addr, qs.length = i ∧ (∀ q ∈ qs, Fz H q []) ∧ H D = some (.dK ((sortsS.zip qs).map fun z => ((Sum.inr z.1 : Key), V.ref z.2)))
theorem ok_bare (F : FnP K "bare_floor" sBare f fd) (g_SORTS : mg "SORTS" = some (.ref S) ∧ RelV (.ref S) (.ref S)) (hS : ∀ H, SqT K H S sortsV) : FnOk P w K mg base CX0 1 f fd [] spBare := by
  have nd := scBare.nd
  refine F.ok scBare (fun vs H Q E h => ?_) (fun cdv A outer s H vs Q E hr h => ⟨_, PSs.nox (pss_one (ps_ret (Hs.pe_frz (pe_dc (own := [("sort", 0)]) (g := (gName 0)) rfl nd (pi_tup (pe_glob (by rfl) g_SORTS.1 g_SORTS.2)) (blkOk_by (N := ["sort"]) (sc := defScope (Hs.top 67)) (by decide +kernel)) (fun _ _ _ _ _ => (pg_name (i := 0) nd rfl (Or.inl rfl))) (fun _ _ _ _ _ => pts_nil) (fun _ _ _ _ _ => (pv 0)) (fun _ _ _ _ _ => (Hs.pe_frz pe_dnewK)))))), ?_⟩)
  · rw [h.1] <;> rfl
  · obtain ⟨rfl, k⟩ := h
    refine ⟨S, rfl, ⟨_, hS H⟩, fun D hD => ?_⟩
    refine dc_tup (xs := sortsV) (fun i H' => BareI H H' D i) ⟨Ex.new hD, [], rfl, (fun q hq => by cases hq), upd_same⟩ (fun i H' _ _ => hS H') (fun i x H' hi p => ?_) (fun H' p => ?_)
    · obtain ⟨e, qs, hl, hq, hD'⟩ := p
      obtain ⟨so, rfl, hso⟩ : ∃ so, x = V.str so ∧ sortsS[i]? = some so := by
        match i, hi with
        | 0, hi => cases hi; exact ⟨_, rfl, rfl⟩
        | 1, hi => cases hi; exact ⟨_, rfl, rfl⟩
        | 2, hi => cases hi; exact ⟨_, rfl, rfl⟩
        | i + 3, hi => cases hi
      refine ⟨rfl, ?_⟩
      simp only [tYes, if_true]
      refine ⟨_, rfl, fun q hqn => ⟨q, _, rfl, upd_same, True.intro, fun od => ?_⟩⟩
      have nD : D ≠ q := ne_of_none hD' hqn
      have e1 : Ex H' (upd (upd H' q (.dK [])) q (.frz od (.dK []))) := Ex.mut (Ex.new hqn) hqn
      have hD1 := e1 _ _ hD'
      refine ⟨_, .inr so, rfl, hD1, ?_, Ex.mut (e.trans e1) hD, qs ++ [q], by rw [List.length_append, hl] <;> rfl, fun r hr => ?_, ?_⟩
      · rw [sizeLine_eq, List.length_map, List.length_zip]
        have : sortsS.length = 3 := rfl
        omega
      · have keep : ∀ {r : Addr}, Fz (upd (upd H' q (.dK [])) q (.frz od (.dK []))) r [] → Fz (upd (upd (upd H' q (.dK [])) q (.frz od (.dK []))) D (.dK (putK ((sortsS.zip qs).map fun z => ((Sum.inr z.1 : Key), V.ref z.2)) (.inr so) (.ref q)))) r [] := fun {r} ⟨o, h⟩ => ⟨o, by
          rw [upd_ne (ne_of h hD1 (by intro z; cases z))]
          exact h⟩
        rcases List.mem_append.mp hr with z | z
        · exact keep ((hq r z).ext e1)
        · rw [List.mem_singleton.mp z]
          exact keep ⟨od, upd_same⟩
      · rw [upd_same]
        match i, qs, hl, hso with
        | 0, [], _, hso => cases hso; rfl
        | 1, [a], _, hso => cases hso; rfl
        | 2, [a, b], _, hso => cases hso; rfl
        | i + 3, _, _, hso => cases hso
    · obtain ⟨e, qs, hl, hq, hD'⟩ := p
      obtain ⟨q1, q2, q3, rfl⟩ : ∃ q1 q2 q3, qs = [q1, q2, q3] := match qs, hl with
        | [q1, q2, q3], _ => ⟨q1, q2, q3, rfl⟩
      refine ⟨D, _, rfl, hD', True.intro, fun od => k D _ hD (Ex.mut e hD) ?_⟩
      have keep : ∀ {r : Addr}, Fz H' r [] → Fz (upd H' D (.frz od (.dK ((sortsS.zip [q1, q2, q3]).map fun z => ((Sum.inr z.1 : Key), V.ref z.2))))) r [] := fun {r} ⟨o, h⟩ => ⟨o, by
        rw [upd_ne (ne_of h hD' (by intro z; cases z))]
        exact h⟩
      exact ⟨q1, q2, q3, ⟨od, upd_same⟩, keep (hq q1 (by simp)), keep (hq q2 (by simp)), keep (hq q3 (by simp))⟩
end
end Hs
namespace Hs
open PySem PySem.Spec PyProof.Rows L2 Evl
def comingV : List (Key × V) := [(.inr "lamp", .int 1), (.inr "post", .int 1), (.inr "pane", .int 1), (.inr "look", .int 1)]
def bareV (q1 q2 q3 : Addr) : List (Key × V) := [(.inr "lamp", .ref q1), (.inr "post", .ref q2), (.inr "pane", .ref q3)]
/-- the first state, at s -/
structure FirstA (K : PySem.W.Frag) (H : Hp) (s : Addr) : Prop where
  ex : ∃ fl lk cm q1 q2 q3, H s = some (.tup [.ref fl, .ref lk, .ref cm]) ∧ Fz H fl (bareV q1 q2 q3) ∧ Fz H lk [] ∧ Fz H cm comingV ∧ Fz H q1 [] ∧ Fz H q2 [] ∧ Fz H q3 []
def spFirst (K : PySem.W.Frag) : Sp := fun vs H Q _ => vs = [] ∧ ∀ s H', H s = none → Ex H H' → FirstA K H' s → Q (.ref s) H'
/-- a new house at h -/
def spInit (K : PySem.W.Frag) (C : Addr) : Sp := fun vs H Q _ => ∃ h dx, vs = [.ref h] ∧ H h = some (.ins C dx []) ∧ ∀ (s p q : Addr) (H' : Hp), (∀ b o, H b = some o → b ≠ h → H' b = some o) → H' h = some (.ins C dx [("state", .ref s), ("past", .ref p), ("ahead", .ref q), ("trying", .bl false)]) → H p = none → H q = none → p ≠ q → H' p = some (.lst []) → H' q = some (.lst []) → FirstA K H' s → Q .non H'
section
variable {P : Program} {w : World} {K : PySem.W.Frag} {mg : Str → Option Value} {base : Heap} {f C : Addr} {fd : FuncData}
abbrev sFirst : Stmt := top 77
theorem scFirst : FnScope [] [] (defScope sFirst) := ⟨rfl, rfl, rfl, by decide +kernel, rfl, by decide +kernel, by decide +kernel⟩
theorem ok_first (F : FnP K "first_state" sFirst f fd) (O_bare_floor : Own P w K mg base 1 "bare_floor" [] spBare) : FnOk P w K mg base CX0 2 f fd [] (spFirst K) := by
  have nd := scFirst.nd
  refine F.ok scFirst (fun vs H Q E h => ?_) (fun cdv A outer s H vs Q E hr h => ⟨_, PSs.nox (pss_one (ps_ret (pe_tup (pa_cons (Hs.pe_own0 O_bare_floor hr (by first | decide | omega) (by rfl)) (pa_cons (Hs.pe_frz pe_dnewK) (pa_cons (Hs.pe_frz (pe_disp (pps_cons pe_str pe_int (pps_cons pe_str pe_int (pps_cons pe_str pe_int (pps_cons pe_str pe_int pps_nil)))) (by rfl) (by rfl) (by simp) (by decide))) pa_nil)))))), ?_⟩)
  · rw [h.1] <;> rfl
  · obtain ⟨rfl, k⟩ := h
    refine ⟨rfl, fun fl H1 hfl e1 hB lk hlk => ⟨lk, _, rfl, upd_same, True.intro, fun od1 cm hcm => ⟨upd_same, comingV, rfl, by decide, cm, _, rfl, upd_same, True.intro, fun od2 => ⟨sz_of (by simp), fun s hs => ?_⟩⟩⟩⟩
    have em : mergeK [] comingV = comingV := by rfl
    rw [em] at hs ⊢
    have x1 : Ex H1 (upd (upd H1 lk (.dK [])) lk (.frz od1 (.dK []))) := Ex.mut (Ex.new hlk) hlk
    have x2 : Ex (upd (upd H1 lk (.dK [])) lk (.frz od1 (.dK []))) (upd (upd (upd (upd (upd H1 lk (.dK [])) lk (.frz od1 (.dK []))) cm (.dK [])) cm (.dK comingV)) cm (.frz od2 (.dK comingV))) := Ex.mut (Ex.mut (Ex.new hcm) hcm) hcm
    have x3 := Ex.new (o := .tup [V.ref fl, .ref lk, .ref cm]) hs
    obtain ⟨q1, q2, q3, b0, b1, b2, b3⟩ := hB.ex
    have e23 := (x1.trans x2).trans x3
    have hlk2 : Fz (upd (upd H1 lk (.dK [])) lk (.frz od1 (.dK []))) lk [] := ⟨od1, upd_same⟩
    exact k s _ (fresh_back (e1.trans (x1.trans x2)) hs) (e1.trans e23) ⟨fl, lk, cm, q1, q2, q3, upd_same, b0.ext e23, hlk2.ext (x2.trans x3), Fz.ext ⟨od2, upd_same⟩ x3, b1.ext e23, b2.ext e23, b3.ext e23⟩
abbrev sInit : Stmt := (inClass (Hs.top 102) 0)
theorem scInit : FnScope ["self"] ["self"] (defScope sInit) := ⟨rfl, rfl, rfl, by decide +kernel, rfl, by decide +kernel, by decide +kernel⟩
theorem FirstA.keep {H H' : Hp} {s h dx : Addr} {fs : List (Str × V)} (ho : H h = some (.ins C dx fs)) (a : FirstA K H s) (e : ∀ b u, H b = some u → b ≠ h → H' b = some u) : FirstA K H' s := by
  obtain ⟨fl, lk, cm, q1, q2, q3, h1, h2, h3, h4, h5, h6, h7⟩ := a.ex
  have kf : ∀ {x : Addr} {kvs : List (Key × V)}, Fz H x kvs → Fz H' x kvs := fun ⟨od, hx⟩ => ⟨od, e _ _ hx (ne_of hx ho (by intro z; cases z))⟩
  exact ⟨fl, lk, cm, q1, q2, q3, e _ _ h1 (ne_of h1 ho (by intro z; cases z)), kf h2, kf h3, kf h4, kf h5, kf h6, kf h7⟩
theorem ok_init (F : FunD K "__init__" "House.__init__" (defArgs sInit) (defBody sInit) (defScope sInit) [] [] f fd) (hC : HouseC K C) (O_first_state : Own P w K mg base 2 "first_state" [] (spFirst K)) : FnOk P w K mg base CX0 3 f fd ["self"] (spInit K C) := by
  have nd := scInit.nd
  refine F.ok scInit (fun vs H Q E h => ?_) (fun cdv A outer s H vs Q E hr h => ⟨_, PSs.nox (pss_cons (ps_fld (pv 0) (Hs.pe_own0 O_first_state hr (by first | decide | omega) (by rfl)) (by rfl))
  (pss_cons (ps_fld (pv 0) (pe_lst pa_nil) (by rfl))
  (pss_cons (ps_fld (pv 0) (pe_lst pa_nil) (by rfl))
  (pss_one (ps_fld (pv 0) pe_bl (by rfl)))))), ?_⟩)
  · obtain ⟨h, dx, rfl, _⟩ := h
    rfl
  · obtain ⟨h, dx, rfl, hh, k⟩ := h
    refine ⟨rfl, fun s H1 hs e1 hF => ⟨_, rfl, h, C, dx, _, rfl, e1 _ _ hh, hC.c, hC.s, by decide, ?_⟩⟩
    have n1 : ∀ b u, H1 b = some u → b ≠ h → upd H1 h (.ins C dx (putF "state" (.ref s) [])) b = some u := fun b u hb hn => by
      rw [upd_ne hn]
      exact hb
    refine ⟨sz_of (by simp), fun p hp => ⟨_, rfl, h, C, dx, _, rfl, (Ex.new hp) _ _ upd_same, hC.c, hC.p, (show 1 < 1000 by decide), ?_⟩⟩
    refine ⟨sz_of (by simp), fun q hq => ⟨_, rfl, h, C, dx, _, rfl, (Ex.new hq) _ _ upd_same, hC.c, hC.a, (show 2 < 1000 by decide), ?_⟩⟩
    refine ⟨_, rfl, h, C, dx, _, rfl, upd_same, hC.c, hC.t, (show 3 < 1000 by decide), ?_⟩
    have nph : p ≠ h := fun z => by
      rw [z, upd_same] at hp
      cases hp
    have nqh : q ≠ h := fun z => by
      rw [z, upd_same] at hq
      cases hq
    have nqp : q ≠ p := fun z => by
      rw [z, upd_ne nph, upd_same] at hq
      cases hq
    have hp1 : H1 p = none := by
      rw [upd_ne nph] at hp
      exact hp
    have hq1 : H1 q = none := by
      rw [upd_ne nqh, upd_ne nqp, upd_ne nqh] at hq
      exact hq
    have all : ∀ b u, H1 b = some u → b ≠ h → upd (upd (upd (upd (upd (upd H1 h (.ins C dx (putF "state" (.ref s) []))) p (.lst [])) h (.ins C dx (putF "past" (.ref p) (putF "state" (.ref s) [])))) q (.lst [])) h (.ins C dx (putF "ahead" (.ref q) (putF "past" (.ref p) (putF "state" (.ref s) []))))) h (.ins C dx (putF "trying" (.bl false) (putF "ahead" (.ref q) (putF "past" (.ref p) (putF "state" (.ref s) []))))) b = some u := fun b u hb hn => by
      rw [upd_ne hn, upd_ne hn, upd_ne (ne_of_none hb hq1), upd_ne hn, upd_ne (ne_of_none hb hp1), upd_ne hn]
      exact hb
    refine k s p q _ (fun b o hb hn => all b o (e1 _ _ hb) hn) ?_ (fresh_back e1 hp1) (fresh_back e1 hq1) (Ne.symm nqp) ?_ ?_ (hF.keep (e1 _ _ hh) all)
    · rw [upd_same] <;> rfl
    · rw [upd_ne nph, upd_ne nph, upd_ne (Ne.symm nqp), upd_ne nph, upd_same]
    · rw [upd_ne nqh, upd_ne nqh, upd_same]
end
end Hs
namespace Hs
open PySem PySem.Spec PyProof.Rows L2 Evl
/-- lamps as they stand: how many choices each, on or off -/
def LampsA (H : Hp) (ts : List (Key × V)) (ls : List (Nat × Bool)) : Prop := ts.length = ls.length ∧ ∀ (i : Nat) (k : Key) (v : V) (n : Nat) (on : Bool), ts[i]? = some (k, v) → ls[i]? = some (n, on) → ∃ th ch cs, v = .ref th ∧ H th = some (.tup [.ref ch, .bl on]) ∧ H ch = some (.tup cs) ∧ cs.length = n
theorem LampsA.ext {H H' : Hp} {ts : List (Key × V)} {ls : List (Nat × Bool)} (h : LampsA H ts ls) (e : Ex H H') : LampsA H' ts ls := ⟨h.1, fun i k v n on h1 h2 => by
  obtain ⟨th, ch, cs, e1, e2, e3, e4⟩ := h.2 i k v n on h1 h2
  exact ⟨th, ch, cs, e1, e _ _ e2, e _ _ e3, e4⟩⟩
def cnts (ls : List (Nat × Bool)) : List Int := (ls.filter fun z => decide (1 < z.1)).map fun z => (z.1 : Int)
theorem cnts_len (ls : List (Nat × Bool)) : (cnts ls).length ≤ ls.length := by
  unfold cnts
  rw [List.length_map]
  exact List.length_filter_le ..
theorem cnts_next {ls : List (Nat × Bool)} {i n : Nat} {on : Bool} (h : ls[i]? = some (n, on)) : cnts (ls.take (i + 1)) = cnts (ls.take i) ++ if 1 < n then [(n : Int)] else [] := by
  unfold cnts
  rw [List.take_add_one, h, List.filter_append, List.map_append]
  congr 1
  by_cases hn : 1 < n
  · simp [hn]
  · simp [hn]
def spCounts (K : PySem.W.Frag) : Sp := fun vs H Q _ => ∃ (a : Addr) (ts : List (Key × V)) (ls : List (Nat × Bool)), vs = [.ref a] ∧ Fz H a ts ∧ LampsA H ts ls ∧ ts.length ≤ 1000 ∧ (∀ z ∈ ls, z.1 ≤ 1000) ∧ ∀ p H', H p = none → Ex H H' → H' p = some (.lst (iv (cnts ls))) → Q (.ref p) H'
section
variable {P : Program} {w : World} {K : PySem.W.Frag} {mg : Str → Option Value} {base : Heap} {f C : Addr} {fd : FuncData}
abbrev sCounts : Stmt := top 55
theorem scCounts : FnScope ["lamps", "choices", "on"] ["lamps"] (defScope sCounts) := ⟨rfl, rfl, rfl, by decide +kernel, rfl, by decide +kernel, by decide +kernel⟩
theorem ok_counts (F : FnP K "counts_of" sCounts f fd) (g_len : mg "len" = none) : FnOk P w K mg base CX0 1 f fd ["lamps"] (spCounts K) := by
  have nd := scCounts.nd
  refine F.ok scCounts (fun vs H Q E h => ?_) (fun cdv A outer s H vs Q E hr h => ⟨_, PSs.nox (pss_one (ps_ret (pe_lc (own := [("choices", 1), ("on", 2)]) (g := gTup K 2 (gCons (gName 1) (gCons (gName 2) gNil))) rfl nd (pi_values (pv 0)) (blkOk_by (N := ["lamps", "choices", "on"]) (sc := defScope (Hs.top 55)) (by decide +kernel)) (fun _ _ _ _ _ => (pg_tup rfl (pgs_cons (pg_name (i := 1) nd rfl (Or.inl rfl)) (pgs_cons (pg_name (i := 2) nd rfl (Or.inl rfl)) pgs_nil)))) (fun _ _ _ _ _ => (pts_one (pt_cmpR op_gt (pe_callB (r := Evl.rLenS K) call_len_seq (by rfl) g_len PySem.boot_len (pa_cons (pv 1) pa_nil)) pe_int (nomark _)))) (fun _ _ _ _ _ => (pe_callB (r := Evl.rLenS K) call_len_seq (by rfl) g_len PySem.boot_len (pa_cons (pv 1) pa_nil)))))), ?_⟩)
  · obtain ⟨a, ts, ls, rfl, _⟩ := h
    rfl
  · obtain ⟨a, ts, ls, rfl, ⟨od, ha⟩, hL, hz, hn, k⟩ := h
    refine ⟨_, rfl, a, od, ts, rfl, ha, fun D hD => ?_⟩
    refine lc_it walk_values (fun i H' => Ex H H' ∧ H' D = some (.lst (iv (cnts (ls.take i))))) ⟨Ex.new hD, upd_same⟩ (fun i H' _ p => p.1 _ _ ha) (fun i x H' H'' hi p y => ?_) (fun H' p => ?_)
    · obtain ⟨rfl, key, hx⟩ := y
      obtain ⟨e, hD'⟩ := p
      obtain ⟨⟨n, on⟩, hln⟩ : ∃ z, ls[i]? = some z := ⟨_, List.getElem?_eq_getElem (by rw [← hL.1]; exact hi)⟩
      obtain ⟨th, ch, cs, rfl, h1, h2, h3⟩ := (hL.ext e).2 i key x n on hx hln
      refine ⟨th, _, rfl, st_of h1, rfl, _, _, rfl, _, _, rfl, rfl, rfl, ?_⟩
      refine (et_test (ev_op (ev_lenQ (K := K) (ev_var rfl) (.inr (st_of h2))) ev_c rv_I0)) _ (Ex.refl _) _ fun H3 e3 => ?_
      have hD3 := e3 _ _ hD'
      have h23 := e3 _ _ h2
      by_cases hc : 1 < n
      · refine ite_T (decide_eq_true (by rw [h3]; omega)) ⟨_, rfl, ch, cs, rfl, .inr (st_of h23), _, hD3, ?_, Ex.mut (e.trans e3) hD, ?_⟩
        · rw [List.length_map]
          have := cnts_len (ls.take i)
          rw [List.length_take] at this
          rw [sizeLine_eq]
          omega
        · rw [upd_same, cnts_next hln, if_pos hc, h3]
          show some (HO.lst (iv (cnts (ls.take i)) ++ [V.int n])) = some (HO.lst (iv (cnts (ls.take i) ++ [(n : Int)])))
          rw [show iv (cnts (ls.take i) ++ [(n : Int)]) = iv (cnts (ls.take i)) ++ [V.int n] from List.map_append ..]
      · refine ite_F (decide_eq_false (by rw [h3]; omega)) ⟨e.trans e3, ?_⟩
        rw [cnts_next hln, if_neg hc, List.append_nil]
        exact hD3
    · refine k D H' hD p.1 ?_
      have z := p.2
      rw [hL.1, List.take_length] at z
      exact z
end
end Hs
namespace Hs
open PySem PySem.Spec PyProof.Rows L2 Evl
def spChecked (K : PySem.W.Frag) (cU cB : Addr) : Sp := fun vs H Q E => ∃ (a : Addr) (v : V) (ts : List (Key × V)) (ls : List (Nat × Bool)), vs = [.ref a, v] ∧ Fz H a ts ∧ LampsA H ts ls ∧ ts.length ≤ 1000 ∧ (∀ z ∈ ls, z.1 ≤ 1000) ∧ Cnt (cnts ls) ∧
  ((v = .non ∧ (cnts ls ≠ [] → Flies cU "unknown" H E) ∧ (cnts ls = [] → ∀ p H', H p = none → Ex H H' → H' p = some (.tup []) → Q (.ref p) H')) ∨
    ∃ (b : Addr) (r : List Int), v = .ref b ∧ SqT K H b (iv r) ∧ (¬ GoodR (cnts ls) r → Flies cB "badsetting" H E) ∧ (GoodR (cnts ls) r → RetV (.ref b) H Q))
section
variable {P : Program} {w : World} {K : PySem.W.Frag} {mg : Str → Option Value} {base : Heap} {f cU cB : Addr} {fd : FuncData}
abbrev sChecked : Stmt := top 57
theorem scChecked : FnScope ["lamps", "setting", "counts"] ["lamps", "setting"] (defScope sChecked) := ⟨rfl, rfl, rfl, by decide +kernel, rfl, by decide +kernel, by decide +kernel⟩
theorem ok_checked (F : FnP K "checked_setting" sChecked f fd) (O_counts_of : Own P w K mg base 1 "counts_of" ["lamps"] (spCounts K)) (O_row_number : OwnX P w K mg base 3 "row_number" ["counts", "row"] [] (spNum K cB)) (Er_Unknown : ErrF P w K mg base 1 "Unknown" cU "unknown") : FnOk P w K mg base (L2.CX P w) 4 f fd ["lamps", "setting"] (spChecked K cU cB) := by
  have nd := scChecked.nd
  refine F.ok scChecked (fun vs H Q E h => ?_) (fun cdv A outer s H vs Q E hr h => ⟨_, (pss_cons (ps_set (i := 2) nd rfl (.inl rfl) (Hs.pe_own O_counts_of hr (by first | decide | omega) (by rfl) (pa_cons (pv 0) pa_nil)))
  (pss_cons (ps_if (pt_cmpR op_isN (pv 1) pe_non (nomark _)) (pss_cons (ps_if (pt_truth (pv 2) (fun _ => rfl)) (pss_one (ps_raise rfl (takes_of rfl rfl rfl rfl) (Hs.pmk_err Er_Unknown hr (by decide) (by rfl)))) pss_nil)
  (pss_one (ps_ret (pe_tup pa_nil)))) pss_nil)
  (pss_cons (ps_expr (Hs.pe_ownT O_row_number hr (by decide) (by rfl) (passes_call (takes_of rfl rfl rfl rfl) (fun _ _ _ _ h => h)) (pa_cons (pv 2) (pa_cons (pv 1) pa_nil))))
  (pss_one (ps_ret (pv 1)))))), ?_⟩)
  · obtain ⟨a, v, ts, ls, rfl, _⟩ := h
    rfl
  · obtain ⟨a, v, ts, ls, rfl, ha, hL, hz, hn, hC, k⟩ := h
    refine ⟨_, rfl, a, ts, ls, rfl, ha, hL, hz, hn, fun p H1 hp e1 h1 => ?_⟩
    dsimp only [gName, List.set]
    rcases k with ⟨rfl, kE, k⟩ | ⟨b, r, rfl, hb, kE, k⟩
    · refine ⟨_, rfl, rfl, true, rfl, ite_T rfl ?_⟩
      refine ⟨_, rfl, !(iv (cnts ls)).isEmpty, .inl ⟨_, sq_of h1, rfl⟩, ?_⟩
      by_cases hc : cnts ls = []
      · refine ite_F (by rw [hc] <;> rfl) ⟨sz_of (by simp), fun q hq => k hc q _ (fresh_back e1 hq) (e1.trans (Ex.new hq)) upd_same⟩
      · refine ite_T ?_ ((kE hc).ext e1)
        cases hcs : cnts ls with
        | nil => exact absurd hcs hc
        | cons x xs => rfl
    · refine ⟨_, rfl, rfl, false, rfl, ite_F rfl ?_⟩
      refine ⟨_, rfl, _, rfl, p, b, cnts ls, r, rfl, .inl (sq_of h1), ex_t e1 hb, hC, fun h => (kE h).ext e1, fun h H2 e2 => ?_⟩
      exact ⟨_, rfl, k h H2 (e1.trans e2)⟩
end
end Hs
namespace Hs
open PySem PySem.Spec PyProof.Rows L2 Evl
def pval (ls : List (Nat × Bool)) (r : List Int) (j : Nat) : Int := if 1 < (ls.getD j (0, false)).1 then r.getD (cnts (ls.take j)).length 0 else 0
def pkV (ts : List (Key × V)) (ls : List (Nat × Bool)) (r : List Int) (i : Nat) : List (Key × V) := (List.range i).map fun j => ((ts.getD j (.inl 0, .non)).1, V.int (pval ls r j))
theorem putK_new {kvs : List (Key × V)} {k : Key} {v : V} (h : ∀ p ∈ kvs, p.1 ≠ k) : putK kvs k v = kvs ++ [(k, v)] := by
  unfold putK
  rw [if_neg]
  rw [List.any_eq_true]
  rintro ⟨p, hp, e⟩
  exact h p hp (of_decide_eq_true e)
theorem pkV_next {ts : List (Key × V)} {ls : List (Nat × Bool)} {r : List Int} {i : Nat} {k : Key} {v : V} (hn : (ts.map (·.1)).Nodup) (h : ts[i]? = some (k, v)) : putK (pkV ts ls r i) k (.int (pval ls r i)) = pkV ts ls r (i + 1) := by
  have hi : i < ts.length := (List.getElem?_eq_some_iff.mp h).1
  rw [putK_new]
  · unfold pkV
    rw [List.range_succ, List.map_append, List.map_singleton, List.getD_eq_getElem?_getD (i := i), h] <;> rfl
  · intro p hp e
    unfold pkV at hp
    obtain ⟨j, hj, rfl⟩ := List.mem_map.mp hp
    have hj := List.mem_range.mp hj
    have e2 : (ts.map (·.1))[j]? = (ts.map (·.1))[i]? := by
      rw [List.getElem?_map, List.getElem?_map, h, List.getElem?_eq_getElem (by omega)]
      have e3 : (ts.getD j (.inl 0, .non)).1 = k := e
      rw [List.getD_eq_getElem?_getD, List.getElem?_eq_getElem (by omega)] at e3
      show some (ts[j]).1 = some k
      rw [← e3] <;> rfl
    have := (List.getElem?_inj (by rw [List.length_map]; omega) hn).mp e2
    omega
theorem cnts_app (a b : List (Nat × Bool)) : cnts (a ++ b) = cnts a ++ cnts b := by
  unfold cnts
  rw [List.filter_append, List.map_append]
def spPicks (K : PySem.W.Frag) : Sp := fun vs H Q _ => ∃ (a b : Addr) (ts : List (Key × V)) (ls : List (Nat × Bool)) (r : List Int), vs = [.ref a, .ref b] ∧ Fz H a ts ∧ LampsA H ts ls ∧ (ts.map (·.1)).Nodup ∧ ts.length ≤ 1000 ∧ SqT K H b (iv r) ∧ r.length = (cnts ls).length ∧
  ∀ p H', H p = none → Ex H H' → H' p = some (.dK (pkV ts ls r ts.length)) → Q (.ref p) H'
section
variable {P : Program} {w : World} {K : PySem.W.Frag} {mg : Str → Option Value} {base : Heap} {f C : Addr} {fd : FuncData}
abbrev sPicks : Stmt := top 58
theorem scPicks : FnScope ["lamps", "setting", "picks", "used", "number", "choices", "on"] ["lamps", "setting"] (defScope sPicks) := ⟨rfl, rfl, rfl, by decide +kernel, rfl, by decide +kernel, by decide +kernel⟩
theorem ok_picks (F : FnP K "picks_of" sPicks f fd) (g_len : mg "len" = none) : FnOk P w K mg base CX0 1 f fd ["lamps", "setting"] (spPicks K) := by
  have nd := scPicks.nd
  refine F.ok scPicks (fun vs H Q E h => ?_) (fun cdv A outer s H vs Q E hr h => ⟨_, PSs.nox (pss_cons (ps_set (i := 2) nd rfl (.inl rfl) pe_dnewK)
  (pss_cons (ps_set (i := 3) nd rfl (.inl rfl) pe_int)
  (pss_cons (ps_for PassesOwn.never rfl (pi_items (pv 0)) (pg_tup rfl (pgs_cons (pg_name (i := 4) nd rfl (.inl rfl)) (pgs_cons (pg_tup rfl (pgs_cons (pg_name (i := 5) nd rfl (.inl rfl)) (pgs_cons (pg_name (i := 6) nd rfl (.inl rfl)) pgs_nil))) pgs_nil))) (pss_one (ps_if (pt_cmpR op_gt (pe_callB (r := Evl.rLenS K) call_len_seq (by rfl) g_len PySem.boot_len (pa_cons (pv 5) pa_nil)) pe_int (nomark _)) (pss_cons (ps_dput (Hs.un1 hr) (pv 2) (pv 4) (pe_ix (r := rIxT K) ix_tup (pv 1) (pv 3) (fun _ _ => rfl)) (by rfl))
  (pss_one (ps_aug (i := 3) nd rfl (.inl rfl) pe_int ip_add))) (pss_one (ps_dput (Hs.un1 hr) (pv 2) (pv 4) pe_int (by rfl))))))
  (pss_one (ps_ret (pv 2)))))), ?_⟩)
  · obtain ⟨a, b, ts, ls, r, rfl, _⟩ := h
    rfl
  · obtain ⟨a, b, ts, ls, r, rfl, ⟨od, ha⟩, hL, hn, hz, hb, hr1, k⟩ := h
    refine fun p hp => ?_
    dsimp only [gName, List.set]
    refine q_asg ev_c fun H1 e1 => ?_
    have xp := Ex.new (o := .dK []) hp
    have hp1 := e1 p _ (upd_same (H := H) (a := p) (o := .dK []))
    have e01 := xp.trans e1
    refine ⟨_, rfl, a, od, ts, rfl, e01 _ _ ha, ?_⟩
    refine for_it walk_items (fun i σ' H' => Ex H H' ∧ H' p = some (.dK (pkV ts ls r i)) ∧ ∃ v4 v5 v6, σ' = [some (.ref a), some (.ref b), some (.ref p), some (.int ((cnts (ls.take i)).length : Int)), v4, v5, v6]) ⟨e01, hp1, none, none, none, rfl⟩ (fun i σ' H' _ q => q.1 _ _ ha) (fun i x σ' H' H'' hi q y => ?_) (fun σ' H' q => ?_)
    · obtain ⟨e, hpi, v4, v5, v6, rfl⟩ := q
      obtain ⟨T, x1, x2, rfl, hT, rfl, f1, f2⟩ := y
      obtain ⟨⟨key, v⟩, hkv⟩ : ∃ z, ts[i]? = some z := ⟨_, List.getElem?_eq_getElem hi⟩
      obtain ⟨⟨n, on⟩, hln⟩ : ∃ z, ls[i]? = some z := ⟨_, List.getElem?_eq_getElem (by rw [← hL.1]; exact hi)⟩
      dsimp only at f1 f2
      rw [hkv] at f1 f2
      cases f1
      cases f2
      have eT := Ex.new (o := .tup [kV key, v]) hT
      obtain ⟨th, ch, cs, rfl, h1, h2, h3⟩ := (hL.ext (e.trans eT)).2 i key v n on hkv hln
      refine ⟨T, _, rfl, st_of upd_same, rfl, _, _, rfl, _, _, rfl, ⟨th, _, rfl, st_of h1, rfl, _, _, rfl, _, _, rfl, rfl, rfl, ?_⟩⟩
      have hpT := eT _ _ hpi
      have hlen : (pkV ts ls r i).length < sizeLine := by
        unfold pkV
        rw [List.length_map, List.length_range, sizeLine_eq]
        omega
      have hls : ls.getD i (0, false) = (n, on) := by rw [List.getD_eq_getElem?_getD, hln] <;> rfl
      have hnx := cnts_next hln
      refine s_if (et_test (ev_op (ev_lenQ (K := K) (ev_var rfl) (.inr (st_of h2))) ev_c rv_I0)) (fun ht H3 e3 => ?_) (fun ht H3 e3 => ?_)
      · have hc : 1 < n := by
          have := of_decide_eq_true ht
          rw [h3] at this
          omega
        have hu : (cnts (ls.take i)).length < r.length := by
          have e1 : cnts ls = cnts (ls.take (i + 1)) ++ cnts (ls.drop (i + 1)) := by rw [← cnts_app, List.take_append_drop]
          rw [hr1, e1, hnx, if_pos hc, List.length_append, List.length_append]
          simp
          omega
        have hpv : pval ls r i = r.getD (cnts (ls.take i)).length 0 := by
          unfold pval
          rw [hls, if_pos hc]
        have hat : atI (iv r) ((cnts (ls.take i)).length : Int) = some (.int (pval ls r i)) := by
          refine atI_nat ?_
          rw [List.getElem?_map, List.getElem?_eq_getElem hu, hpv, List.getD_eq_getElem?_getD, List.getElem?_eq_getElem hu] <;> rfl
        refine ⟨_, rfl, _, rfl, b, _, _, _, rfl, rfl, ex_t ((e.trans eT).trans e3) hb, hat, _, rfl, _, rfl, p, _, rfl, DPut.k (e3 _ _ hpT) hlen, ?_⟩
        refine s_aug (a := ((cnts (ls.take i)).length : Int)) rfl ev_c fun H5 e5 => ⟨(Ex.mut ((e.trans eT).trans e3) hp).trans e5, ?_, some (kV key), some (.ref ch), some (.bl on), ?_⟩
        · refine e5 _ _ ?_
          rw [upd_same, pkV_next hn hkv]
        · rw [hnx, if_pos hc, List.length_append]
          rfl
      · have hc : ¬ 1 < n := by
          have := of_decide_eq_false ht
          rw [h3] at this
          omega
        have hpv : pval ls r i = 0 := by
          unfold pval
          rw [hls, if_neg hc]
        refine ⟨_, rfl, _, rfl, p, _, rfl, DPut.k (e3 _ _ hpT) hlen, Ex.mut ((e.trans eT).trans e3) hp, ?_, some (kV key), some (.ref ch), some (.bl on), ?_⟩
        · rw [upd_same, ← pkV_next hn hkv, hpv]
        · rw [hnx, if_neg hc, List.append_nil]
          rfl
    · obtain ⟨e, hpi, v4, v5, v6, rfl⟩ := q
      exact s_ret (ev_var rfl) fun H3 e3 => k p H3 hp (e.trans e3) (e3 _ _ hpi)
end
end Hs
namespace Hs
open PySem PySem.Spec PyProof.Rows L2 Evl
def siftsV : List V := [.str "", .str "r", .str "g", .str "b", .str "rg", .str "rb", .str "gb", .str "rgb"]
def good (z : Str) : Bool := inV (.str z) siftsV
def spCheck (C : Addr) : Sp := fun vs H Q E => ∃ z : Str, vs = [.str z] ∧ (good z = false → Flies C "badsift" H E) ∧ (good z = true → RetV .non H Q)
section
variable {P : Program} {w : World} {K : PySem.W.Frag} {mg : Str → Option Value} {base : Heap} {f C S : Addr} {fd : FuncData}
abbrev sCheck : Stmt := top 34
theorem scCheck : FnScope ["sift"] ["sift"] (defScope sCheck) := ⟨rfl, rfl, rfl, by decide +kernel, rfl, by decide +kernel, by decide +kernel⟩
theorem ok_check (F : FnP K "check_sift" sCheck f fd) (Er_BadSift : ErrF P w K mg base 1 "BadSift" C "badsift") (g_SIFTS : mg "SIFTS" = some (.ref S) ∧ RelV (.ref S) (.ref S)) (hS : ∀ H, SqT K H S siftsV) : FnOk P w K mg base (L2.CX P w) 3 f fd ["sift"] (spCheck C) := by
  have nd := scCheck.nd
  refine F.ok scCheck (fun vs H Q E h => ?_) (fun cdv A outer s H vs Q E hr h => ⟨_, (pss_one (ps_if (pt_cmpR op_notIn_seq (pv 0) (pe_glob (by rfl) g_SIFTS.1 g_SIFTS.2) (by rfl)) (pss_one (ps_raise rfl (takes_of rfl rfl rfl rfl) (Hs.pmk_err Er_BadSift hr (by decide) (by rfl)))) pss_nil)), ?_⟩)
  · obtain ⟨z, rfl, _⟩ := h
    rfl
  · obtain ⟨z, rfl, kE, k⟩ := h
    refine ⟨_, rfl, S, siftsV, rfl, .inr (hS H), rfl, by decide, ?_⟩
    cases hg : good z with
    | true =>
      have hg' : inV (.str z) siftsV = true := hg
      refine ⟨_, rfl, ite_F (by rw [hg'] <;> rfl) ?_⟩
      exact k hg H (Ex.refl H)
    | false =>
      have hg' : inV (.str z) siftsV = false := hg
      refine ⟨_, rfl, ite_T (by rw [hg'] <;> rfl) ?_⟩
      exact kE hg
/-! ### a light sifted -/
abbrev Tri := Int × Int × Int
def tri (x : Tri) : List V := [.int x.1, .int x.2.1, .int x.2.2]
/-- whether the letter stands in the text -/
def has (c : Nat) (z : Str) : Bool := decide (c ∈ z.cps.toList)
def pick (c : Nat) (z : Str) (i : Int) : Int := if has c z = true then i else 0
def siftT (x : Tri) (z : Str) : Tri := (pick 114 z x.1, pick 103 z x.2.1, pick 98 z x.2.2)
def spSifted (K : PySem.W.Frag) (C : Addr) : Sp := fun vs H Q E => ∃ (a : Addr) (x : Tri) (z : Str), vs = [.ref a, .str z] ∧ SqT K H a (tri x) ∧ (good z = false → Flies C "badsift" H E) ∧ (good z = true → RetU (tri (siftT x z)) H Q)
theorem ev_pick {σ : L2.St} {H : Hp} {c : Nat} {z : Str} {i : Int} {l : Str} {ti tz : TE} (hl : l = ⟨#[c]⟩) (hz : Ev tz σ H (.str z)) (hi : Ev ti σ H (.int i)) : Ev (tIf (tTest (tOp rHas (tC (.str l)) tz)) ti (tC (.int 0))) σ H (.int (pick c z i)) := by
  refine ev_if (b := has c z) (et_test (ev_op ev_c hz fun H1 _ Q q => ⟨c, z, by rw [hl], rfl, q H1 (Ex.refl H1)⟩)) (fun hb => ?_) (fun hb => ?_)
  · exact ev_is hi (by rw [pick, if_pos hb])
  · exact ev_is ev_c (by rw [pick, if_neg (by rw [hb]; exact Bool.false_ne_true)])
abbrev sSifted : Stmt := top 35
theorem scSifted : FnScope ["light", "sift", "red", "green", "blue"] ["light", "sift"] (defScope sSifted) := ⟨rfl, rfl, rfl, by decide +kernel, rfl, by decide +kernel, by decide +kernel⟩
theorem ok_sifted (F : FnP K "sifted" sSifted f fd) (O_check_sift : OwnX P w K mg base 3 "check_sift" ["sift"] [] (spCheck C)) : FnOk P w K mg base (L2.CX P w) 4 f fd ["light", "sift"] (spSifted K C) := by
  have nd := scSifted.nd
  refine F.ok scSifted (fun vs H Q E h => ?_) (fun cdv A outer s H vs Q E hr h => ⟨_, (pss_cons (ps_expr (Hs.pe_ownT O_check_sift hr (by decide) (by rfl) (passes_call (takes_of rfl rfl rfl rfl) (fun _ _ _ _ h => h)) (pa_cons (pv 1) pa_nil)))
  (pss_cons (ps_asg (pv 0) (pg_tup rfl (pgs_cons (pg_name (i := 2) nd rfl (.inl rfl)) (pgs_cons (pg_name (i := 3) nd rfl (.inl rfl)) (pgs_cons (pg_name (i := 4) nd rfl (.inl rfl)) pgs_nil)))))
  (pss_one (ps_ret (pe_tup (pa_cons (pe_ifExp (pt_cmpR (Hs.op_has) pe_str (pv 1) (by rfl)) (pv 2) pe_int) (pa_cons (pe_ifExp (pt_cmpR (Hs.op_has) pe_str (pv 1) (by rfl)) (pv 3) pe_int) (pa_cons (pe_ifExp (pt_cmpR (Hs.op_has) pe_str (pv 1) (by rfl)) (pv 4) pe_int) pa_nil)))))))), ?_⟩)
  · obtain ⟨a, x, z, rfl, _⟩ := h
    rfl
  · obtain ⟨a, x, z, rfl, hx, kE, k⟩ := h
    refine ⟨_, rfl, z, rfl, fun hg => kE hg, fun hg H1 e1 => ?_⟩
    refine ⟨_, rfl, a, _, rfl, ex_t e1 hx, rfl, _, _, rfl, _, _, rfl, _, _, rfl, rfl, ?_⟩
    refine s_retU (eu_tup (ea_cons (ev_pick (c := 114) rfl (ev_var rfl) (ev_var rfl)) (ea_cons (ev_pick (c := 103) rfl (ev_var rfl) (ev_var rfl)) (ea_cons (ev_pick (c := 98) rfl (ev_var rfl) (ev_var rfl)) ea_nil))) (by simp)) fun p H2 hp e2 h2 => ?_
    exact k hg p H2 (fresh_back e1 hp) (e1.trans e2) h2
/-! ### sums of lights -/
def sum3 (xs : List Tri) : Tri := (((xs.map (·.1)).sum), ((xs.map (·.2.1)).sum), ((xs.map (·.2.2)).sum))
/-- lights that stand: of each its object -/
def Lights (K : PySem.W.Frag) (H : Hp) (ps : List Addr) (xs : List Tri) : Prop := ps.length = xs.length ∧ ∀ (i : Nat) (p : Addr) (x : Tri), ps[i]? = some p → xs[i]? = some x → SqT K H p (tri x)
def spSummedL (K : PySem.W.Frag) : Sp := fun vs H Q _ => ∃ (a : Addr) (ps : List Addr) (xs : List Tri), vs = [.ref a] ∧ SqL K H a (ps.map V.ref) ∧ Lights K H ps xs ∧ RetU (tri (sum3 xs)) H Q
abbrev sSummed : Stmt := top 36
theorem scSummed : FnScope ["lights", "red", "green", "blue", "light"] ["lights"] (defScope sSummed) := ⟨rfl, rfl, rfl, by decide +kernel, rfl, by decide +kernel, by decide +kernel⟩
theorem sum_take {f : Tri → Int} {xs : List Tri} {i : Nat} {x : Tri} (h : xs[i]? = some x) : ((xs.take (i + 1)).map f).sum = ((xs.take i).map f).sum + f x := by
  rw [List.take_add_one, h]
  simp
theorem ok_summedL (F : FnP K "summed" sSummed f fd) {D : Addr} (g_DARK : mg "DARK" = some (.ref D) ∧ RelV (.ref D) (.ref D)) (hD : ∀ H, SqT K H D (tri (0, 0, 0))) : FnOk P w K mg base CX0 1 f fd ["lights"] (spSummedL K) := by
  have nd := scSummed.nd
  refine F.ok scSummed (fun vs H Q E h => ?_) (fun cdv A outer s H vs Q E hr h => ⟨_, PSs.nox (pss_cons (ps_asg (pe_glob (by rfl) g_DARK.1 g_DARK.2) (pg_tup rfl (pgs_cons (pg_name (i := 1) nd rfl (.inl rfl)) (pgs_cons (pg_name (i := 2) nd rfl (.inl rfl)) (pgs_cons (pg_name (i := 3) nd rfl (.inl rfl)) pgs_nil)))))
  (pss_cons (ps_for PassesOwn.never rfl (pi_list (pv 0)) (pg_name (i := 4) nd rfl (.inl rfl)) (pss_cons (ps_aug (i := 1) nd rfl (.inl rfl) (pe_ix (r := rIxT K) ix_tup (pv 4) pe_int (fun _ _ => rfl)) ip_add)
  (pss_cons (ps_aug (i := 2) nd rfl (.inl rfl) (pe_ix (r := rIxT K) ix_tup (pv 4) pe_int (fun _ _ => rfl)) ip_add)
  (pss_one (ps_aug (i := 3) nd rfl (.inl rfl) (pe_ix (r := rIxT K) ix_tup (pv 4) pe_int (fun _ _ => rfl)) ip_add)))))
  (pss_one (ps_ret (pe_tup (pa_cons (pv 1) (pa_cons (pv 2) (pa_cons (pv 3) pa_nil)))))))), ?_⟩)
  · obtain ⟨a, ps, xs, rfl, _⟩ := h
    rfl
  · obtain ⟨a, ps, xs, rfl, hS, ⟨hl, hL⟩, k⟩ := h
    refine ⟨D, _, rfl, hD H, rfl, _, _, rfl, _, _, rfl, _, _, rfl, rfl, ?_⟩
    show tSeq (tFor (iList K (tVar 0)) _ _) _ _ [some (.ref a), some (.int 0), some (.int 0), some (.int 0), none] H
    refine q_forL (a := a) (xs := ps.map V.ref) ?_ hS (fun i σ' H' => Ex H H' ∧ ∃ v : Option V, σ' = [some (.ref a), some (.int (sum3 (xs.take i)).1), some (.int (sum3 (xs.take i)).2.1), some (.int (sum3 (xs.take i)).2.2), v]) ?_ ?_ ?_ ?_
    · exact ev_var rfl
    · intro H1 e1
      exact ⟨e1, none, rfl⟩
    · rintro i σ' H' _ ⟨e, _⟩
      exact ex_l e hS
    · rintro i x σ' H' hx ⟨e, v, rfl⟩
      rw [List.getElem?_map] at hx
      obtain ⟨p, hp, rfl⟩ := Option.map_eq_some_iff.mp hx
      obtain ⟨y, hy⟩ : ∃ y, xs[i]? = some y := by
        have : i < xs.length := by
          rw [← hl]
          exact (List.getElem?_eq_some_iff.mp hp).1
        exact ⟨_, List.getElem?_eq_getElem this⟩
      have hy1 := ex_t e (hL i p y hp hy)
      refine q_aug (f := fun i j => i + j) rfl (ev_ixt rfl hy1 rfl) fun H2 e2 => ?_
      refine q_aug (f := fun i j => i + j) rfl (ev_ixt rfl (ex_t e2 hy1) rfl) fun H3 e3 => ?_
      refine s_aug (f := fun i j => i + j) rfl (ev_ixt rfl (ex_t (e2.trans e3) hy1) rfl) fun H4 e4 => ⟨((e.trans e2).trans e3).trans e4, some (.ref p), ?_⟩
      have t1 := sum_take (f := fun z => z.1) hy
      have t2 := sum_take (f := fun z => z.2.1) hy
      have t3 := sum_take (f := fun z => z.2.2) hy
      show _ = [_, some (V.int ((xs.take (i + 1)).map (fun z => z.1)).sum), some (V.int ((xs.take (i + 1)).map (fun z => z.2.1)).sum), some (V.int ((xs.take (i + 1)).map (fun z => z.2.2)).sum), _]
      rw [t1, t2, t3]
      rfl
    · rintro σ' H' ⟨e, v, rfl⟩
      rw [List.length_map, hl, List.take_length]
      exact s_retU (eu_tup (ea_cons (ev_var rfl) (ea_cons (ev_var rfl) (ea_cons (ev_var rfl) ea_nil))) (by simp)) fun p H2 hp e2 h2 => k p H2 (fresh_back e hp) (e.trans e2) h2
def spSummedT (K : PySem.W.Frag) : Sp := fun vs H Q _ => ∃ (a : Addr) (ps : List Addr) (xs : List Tri), vs = [.ref a] ∧ SqT K H a (ps.map V.ref) ∧ Lights K H ps xs ∧ RetU (tri (sum3 xs)) H Q
theorem ok_summedT (F : FnP K "summed" sSummed f fd) {D : Addr} (g_DARK : mg "DARK" = some (.ref D) ∧ RelV (.ref D) (.ref D)) (hD : ∀ H, SqT K H D (tri (0, 0, 0))) : FnOk P w K mg base CX0 1 f fd ["lights"] (spSummedT K) := by
  have nd := scSummed.nd
  refine F.ok scSummed (fun vs H Q E h => ?_) (fun cdv A outer s H vs Q E hr h => ⟨_, PSs.nox (pss_cons (ps_asg (pe_glob (by rfl) g_DARK.1 g_DARK.2) (pg_tup rfl (pgs_cons (pg_name (i := 1) nd rfl (.inl rfl)) (pgs_cons (pg_name (i := 2) nd rfl (.inl rfl)) (pgs_cons (pg_name (i := 3) nd rfl (.inl rfl)) pgs_nil)))))
  (pss_cons (ps_for PassesOwn.never rfl (pi_tup (pv 0)) (pg_name (i := 4) nd rfl (.inl rfl)) (pss_cons (ps_aug (i := 1) nd rfl (.inl rfl) (pe_ix (r := rIxT K) ix_tup (pv 4) pe_int (fun _ _ => rfl)) ip_add)
  (pss_cons (ps_aug (i := 2) nd rfl (.inl rfl) (pe_ix (r := rIxT K) ix_tup (pv 4) pe_int (fun _ _ => rfl)) ip_add)
  (pss_one (ps_aug (i := 3) nd rfl (.inl rfl) (pe_ix (r := rIxT K) ix_tup (pv 4) pe_int (fun _ _ => rfl)) ip_add)))))
  (pss_one (ps_ret (pe_tup (pa_cons (pv 1) (pa_cons (pv 2) (pa_cons (pv 3) pa_nil)))))))), ?_⟩)
  · obtain ⟨a, ps, xs, rfl, _⟩ := h
    rfl
  · obtain ⟨a, ps, xs, rfl, hS, ⟨hl, hL⟩, k⟩ := h
    refine ⟨D, _, rfl, hD H, rfl, _, _, rfl, _, _, rfl, _, _, rfl, rfl, ?_⟩
    show tSeq (tFor (iTup K (tVar 0)) _ _) _ _ [some (.ref a), some (.int 0), some (.int 0), some (.int 0), none] H
    refine q_forT (a := a) (xs := ps.map V.ref) ?_ hS (fun i σ' H' => Ex H H' ∧ ∃ v : Option V, σ' = [some (.ref a), some (.int (sum3 (xs.take i)).1), some (.int (sum3 (xs.take i)).2.1), some (.int (sum3 (xs.take i)).2.2), v]) ?_ ?_ ?_ ?_
    · exact ev_var rfl
    · intro H1 e1
      exact ⟨e1, none, rfl⟩
    · rintro i σ' H' _ ⟨e, _⟩
      exact ex_t e hS
    · rintro i x σ' H' hx ⟨e, v, rfl⟩
      rw [List.getElem?_map] at hx
      obtain ⟨p, hp, rfl⟩ := Option.map_eq_some_iff.mp hx
      obtain ⟨y, hy⟩ : ∃ y, xs[i]? = some y := by
        have : i < xs.length := by
          rw [← hl]
          exact (List.getElem?_eq_some_iff.mp hp).1
        exact ⟨_, List.getElem?_eq_getElem this⟩
      have hy1 := ex_t e (hL i p y hp hy)
      refine q_aug (f := fun i j => i + j) rfl (ev_ixt rfl hy1 rfl) fun H2 e2 => ?_
      refine q_aug (f := fun i j => i + j) rfl (ev_ixt rfl (ex_t e2 hy1) rfl) fun H3 e3 => ?_
      refine s_aug (f := fun i j => i + j) rfl (ev_ixt rfl (ex_t (e2.trans e3) hy1) rfl) fun H4 e4 => ⟨((e.trans e2).trans e3).trans e4, some (.ref p), ?_⟩
      have t1 := sum_take (f := fun z => z.1) hy
      have t2 := sum_take (f := fun z => z.2.1) hy
      have t3 := sum_take (f := fun z => z.2.2) hy
      show _ = [_, some (V.int ((xs.take (i + 1)).map (fun z => z.1)).sum), some (V.int ((xs.take (i + 1)).map (fun z => z.2.1)).sum), some (V.int ((xs.take (i + 1)).map (fun z => z.2.2)).sum), _]
      rw [t1, t2, t3]
      rfl
    · rintro σ' H' ⟨e, v, rfl⟩
      rw [List.length_map, hl, List.take_length]
      exact s_retU (eu_tup (ea_cons (ev_var rfl) (ea_cons (ev_var rfl) (ea_cons (ev_var rfl) ea_nil))) (by simp)) fun p H2 hp e2 h2 => k p H2 (fresh_back e hp) (e.trans e2) h2
end
end Hs
namespace Hs
open PySem PySem.Spec PyProof.Rows L2 Evl
/-! ### both sifts -/
section
variable {σ : L2.St} {H : Hp} {K : PySem.W.Frag} {t : TT} {te : TE}
theorem el_lcS {z : Str} {tl : TE} {j : Nat} {vs : List Nat} (f : Nat → Bool) (v : Nat → V) (h : Ev tl σ H (.str z)) (hz : z.cps.size ≤ 40000) (hw : ∀ x, wipe ((wipe σ vs).set j (some x)) vs = wipe σ vs)
    (ht : ∀ (i : Nat) (c : Nat) H1, Ex H H1 → z.cps[i]? = some c → EvT t ((wipe σ vs).set j (some (.str ⟨#[c]⟩))) H1 (f i)) (he : ∀ (i : Nat) (c : Nat) H1, Ex H H1 → z.cps[i]? = some c → f i = true → Ev te ((wipe σ vs).set j (some (.str ⟨#[c]⟩))) H1 (v i)) :
    EvL (tLc (iStr tl) (gName j) t te vs) σ H (given z.cps.size f v) := fun H0 e Q q => h H0 e _ fun H1 e1 => ⟨z, rfl, fun Dl hD =>
  ⟨fun i m H' => Cw H1 f v Dl i H' ∧ i ≤ z.cps.size ∧ m = z.cps.size - i, ⟨_, ⟨hD, Ex.new hD, upd_same⟩, Nat.zero_le _, rfl⟩, fun i m H' hW => by
    obtain ⟨p, hi, hm⟩ := hW
    by_cases hlt : i < z.cps.size
    · refine .inr ⟨hlt, fun H'' => Cw H1 f v Dl (i + 1) H'', fun H'' p' => ⟨z.cps.size - (i + 1), by omega, p', by omega, rfl⟩, fun x H'' hy => ?_⟩
      obtain ⟨eH, c, hc, ev⟩ := hy
      subst eH ev
      exact ⟨hw _, cw_turn p (by omega) (ht i c H1 (e.trans e1) hc) (fun hf => he i c H1 (e.trans e1) hc hf)⟩
    · have ei : i = z.cps.size := by omega
      subst ei
      exact .inl ⟨Nat.le_refl _, q Dl H' (fresh_back e1 p.1) (e1.trans p.2.1) p.2.2⟩⟩⟩
theorem ev_join {tl : TE} {ys : List Str} (h : EvL tl σ H (ys.map V.str)) (hz : (ys.map (·.length)).sum + ys.length * (Str.ofString "").length ≤ 16777216) :
    Ev (tM1 (fun x xs H Q => ∃ a p, ∃ ys : List Str, x = .str a ∧ xs = [.ref p] ∧ (SqL K H p (ys.map V.str) ∨ SqT K H p (ys.map V.str)) ∧ (ys.map (·.length)).sum + ys.length * a.length ≤ 16777216 ∧ Q (.str (Txt.join a ys)) H) (tC (.str "")) tl) σ H (.str (Txt.join "" ys)) := fun H1 e Q q =>
  ⟨⟨_, rfl⟩, h H1 e _ fun p H2 hp e2 h2 => ⟨"", p, ys, rfl, rfl, .inl (sq_of h2), hz, q H2 e2⟩⟩
end
/-- the letters of z that p takes, joined -/
def keepS (z : Str) (p : Nat → Bool) : List Str := ((List.range z.cps.size).filter fun i => p (z.cps.getD i 0)).map fun i => ⟨#[z.cps.getD i 0]⟩
def bothS (a b : Str) : Str := Txt.join "" (keepS a fun c => has c b)
def dueS (a b : Str) : Str := Txt.join "" (keepS "rgb" fun c => has c a && has c b)
theorem keepS_len (z : Str) (p : Nat → Bool) : (keepS z p).length ≤ z.cps.size := by
  unfold keepS
  rw [List.length_map]
  have h := List.length_filter_le (fun i => p (z.cps.getD i 0)) (List.range z.cps.size)
  rw [List.length_range] at h
  exact h
theorem keepS_sum (z : Str) (p : Nat → Bool) : ((keepS z p).map (·.length)).sum ≤ z.cps.size := by
  have h : ∀ l : List Nat, ((l.map fun i => (⟨#[z.cps.getD i 0]⟩ : Str)).map (·.length)).sum = l.length := fun l => by
    induction l with
    | nil => rfl
    | cons x r ih =>
      rw [List.map_cons, List.map_cons, List.sum_cons, ih, List.length_cons]
      show 1 + r.length = r.length + 1
      omega
  unfold keepS
  rw [h]
  have h2 := List.length_filter_le (fun i => p (z.cps.getD i 0)) (List.range z.cps.size)
  rw [List.length_range] at h2
  exact h2
theorem keepS_given (z : Str) (p : Nat → Bool) : (keepS z p).map V.str = given z.cps.size (fun i => p (z.cps.getD i 0)) fun i => .str ⟨#[z.cps.getD i 0]⟩ := by
  unfold keepS given
  rw [List.map_map]
  rfl
theorem at_getD {z : Str} {i c : Nat} (h : z.cps[i]? = some c) : z.cps.getD i 0 = c := by
  rw [Array.getD_eq_getD_getElem?, h]
  rfl
def spBoth (C : Addr) : Sp := fun vs H Q E => ∃ a b : Str, vs = [.str a, .str b] ∧ a.cps.size ≤ 40 ∧ ((good a && good b) = false → Flies C "badsift" H E) ∧ ((good a && good b) = true → RetV (.str (bothS a b)) H Q)
section
variable {P : Program} {w : World} {K : PySem.W.Frag} {mg : Str → Option Value} {base : Heap} {f C S : Addr} {fd : FuncData}
abbrev sBoth : Stmt := top 37
theorem scBoth : FnScope ["one", "other", "letter"] ["one", "other"] (defScope sBoth) := ⟨rfl, rfl, rfl, by decide +kernel, rfl, by decide +kernel, by decide +kernel⟩
theorem ok_both (F : FnP K "both_sifts" sBoth f fd) (O_check_sift : OwnX P w K mg base 3 "check_sift" ["sift"] [] (spCheck C)) : FnOk P w K mg base (L2.CX P w) 4 f fd ["one", "other"] (spBoth C) := by
  have nd := scBoth.nd
  refine F.ok scBoth (fun vs H Q E h => ?_) (fun cdv A outer s H vs Q E hr h => ⟨_, (pss_cons (ps_expr (Hs.pe_ownT O_check_sift hr (by decide) (by rfl) (passes_call (takes_of rfl rfl rfl rfl) (fun _ _ _ _ h => h)) (pa_cons (pv 0) pa_nil)))
  (pss_cons (ps_expr (Hs.pe_ownT O_check_sift hr (by decide) (by rfl) (passes_call (takes_of rfl rfl rfl rfl) (fun _ _ _ _ h => h)) (pa_cons (pv 1) pa_nil)))
  (pss_one (ps_ret (pe_join pe_str (pe_lc (own := [("letter", 2)]) rfl nd (pi_str (pv 0)) (blkOk_by (N := ["one", "other", "letter"]) (sc := defScope (Hs.top 37)) (by decide +kernel)) (fun _ _ _ _ _ => (pg_name (i := 2) nd rfl (Or.inl rfl))) (fun _ _ _ _ _ => (pts_one (pt_cmpR (Hs.op_has) (pv 2) (pv 1) (by rfl)))) (fun _ _ _ _ _ => (pv 2)))))))), ?_⟩)
  · obtain ⟨a, b, rfl, _⟩ := h
    rfl
  · obtain ⟨a, b, rfl, ha, kE, k⟩ := h
    refine ⟨_, rfl, a, rfl, fun hg => kE (by rw [hg] <;> rfl), fun hg H1 e1 => ?_⟩
    refine ⟨_, rfl, b, rfl, fun hg2 d H' e n hd => kE (by rw [hg2, Bool.and_false]) d H' (e1.trans e) (fresh_back e1 n) hd, fun hg2 H2 e2 => ?_⟩
    refine s_ret (v := .str (bothS a b)) (ev_join (K := K) ?_ ?_) fun H3 e3 => k (by rw [hg, hg2] <;> rfl) H3 ((e1.trans e2).trans e3)
    · rw [keepS_given]
      refine el_lcS _ _ (ev_var rfl) (by omega) (fun _ => rfl) (fun i c H3 _ hc => ?_) (fun i c H3 _ hc _ => ?_)
      · rw [at_getD hc]
        exact et_test (ev_op (ev_var rfl) (ev_var rfl) fun H4 _ Q q => ⟨c, b, rfl, rfl, q H4 (Ex.refl H4)⟩)
      · rw [at_getD hc]
        exact ev_var rfl
    · have h1 := keepS_sum a fun c => has c b
      have h2 : (Str.ofString "").length = 0 := rfl
      rw [h2, Nat.mul_zero]
      omega
end
def S8 : List Str := ["", "r", "g", "b", "rg", "rb", "gb", "rgb"]
theorem letters_at {v : Int} (h0 : 0 ≤ v) (h1 : v < 8) : ∃ z ∈ S8, atI siftsV v = some (.str z) := by
  obtain rfl | rfl | rfl | rfl | rfl | rfl | rfl | rfl : v = 0 ∨ v = 1 ∨ v = 2 ∨ v = 3 ∨ v = 4 ∨ v = 5 ∨ v = 6 ∨ v = 7 := by omega
  all_goals exact ⟨_, by decide, rfl⟩
theorem good_of {z : Str} (h : z ∈ S8) : good z = true := by
  have e : ∀ z ∈ S8, good z = true := by decide +kernel
  exact e z h
theorem both_S8 {a b : Str} (ha : a ∈ S8) (hb : b ∈ S8) : bothS a b ∈ S8 := by
  have e : ∀ a ∈ S8, ∀ b ∈ S8, bothS a b ∈ S8 := by decide +kernel
  exact e a ha b hb
theorem S8_len {z : Str} (h : z ∈ S8) : z.cps.size ≤ 40 := by
  have e : ∀ z ∈ S8, z.cps.size ≤ 40 := by decide +kernel
  exact e z h
/-! ### figures -/
inductive Fig where
  | post (B : Blk)
  | pane (a b : Pt) (z : Str)
def Fig.sort : Fig → Str
  | .post _ => "post"
  | .pane _ _ _ => "pane"
def Fig.ok : Fig → Prop
  | .post _ => True
  | .pane _ _ z => z ∈ S8
def FigV (K : PySem.W.Frag) (n : Nat) (H : Hp) (v : V) : Fig → Prop
  | .post B => ∃ p, v = .ref p ∧ Bl K n H p B
  | .pane a b z => ∃ p q, v = .ref p ∧ SqT K H p [.ref q, .str z] ∧ Pc K n H q a b
theorem FigV.ext {K : PySem.W.Frag} {n : Nat} {H H' : Hp} {v : V} {F : Fig} (h : FigV K n H v F) (e : Ex H H') : FigV K n H' v F := by
  cases F with
  | post B =>
    obtain ⟨p, rfl, hp⟩ := h
    exact ⟨p, rfl, hp.ext e⟩
  | pane a b z =>
    obtain ⟨p, q, rfl, hp, hq⟩ := h
    exact ⟨p, q, rfl, ex_t e hp, hq.ext e⟩
open Classical in
noncomputable def letF (F : Fig) (x y : Pt) : Str := match F with
  | .post B => if SatB B x y then "" else "rgb"
  | .pane a b z => if Sat a b x y then z else "rgb"
theorem letF_S8 {F : Fig} {x y : Pt} (h : F.ok) : letF F x y ∈ S8 := by
  have e0 : ("" : Str) ∈ S8 := by decide +kernel
  have e1 : ("rgb" : Str) ∈ S8 := by decide +kernel
  unfold letF
  cases F with
  | post B =>
    dsimp only
    split
    · exact e0
    · exact e1
  | pane a b z =>
    dsimp only
    split
    · exact h
    · exact e1
noncomputable def letStep (x y : Pt) (s : Str) (F : Fig) : Str := if s = "" then s else bothS s (letF F x y)
noncomputable def letAll (Fs : List Fig) (x y : Pt) : Str := Fs.foldl (letStep x y) "rgb"
theorem letAll_S8 {x y : Pt} : ∀ (Fs : List Fig) (s : Str), s ∈ S8 → (∀ F ∈ Fs, F.ok) → Fs.foldl (letStep x y) s ∈ S8
  | [], s, hs, _ => hs
  | F :: r, s, hs, h => by
    refine letAll_S8 r _ ?_ fun G hG => h G (List.mem_cons_of_mem _ hG)
    unfold letStep
    split
    · exact hs
    · exact both_S8 hs (letF_S8 (h F (List.mem_cons_self ..)))
theorem letAll_end {x y : Pt} : ∀ Fs : List Fig, Fs.foldl (letStep x y) "" = ""
  | [] => rfl
  | F :: r => by
    rw [List.foldl_cons, letStep, if_pos rfl]
    exact letAll_end r
/-- the figures at a, as the program lists them -/
def FigsA (K : PySem.W.Frag) (n : Nat) (H : Hp) (a : Addr) (Fs : List Fig) : Prop := ∃ ps : List Addr, H a = some (.lst (ps.map V.ref)) ∧ ps.length = Fs.length ∧ ∀ (i : Nat) (p : Addr) (F : Fig), ps[i]? = some p → Fs[i]? = some F → ∃ (num : Int) (v : V), H p = some (.tup [.str F.sort, .int num, v]) ∧ FigV K n H v F
theorem FigsA.ext {K : PySem.W.Frag} {n : Nat} {H H' : Hp} {a : Addr} {Fs : List Fig} (h : FigsA K n H a Fs) (e : Ex H H') : FigsA K n H' a Fs := by
  obtain ⟨ps, h1, h2, h3⟩ := h
  refine ⟨ps, e _ _ h1, h2, fun i p F hp hF => ?_⟩
  obtain ⟨num, v, g1, g2⟩ := h3 i p F hp hF
  exact ⟨num, v, e _ _ g1, g2.ext e⟩
def spLetBy (K : PySem.W.Frag) (n : Nat) : Sp := fun vs H Q _ => ∃ (F : Fig) (v : V) (wy : Addr) (x y : Pt), vs = [.str F.sort, v, .ref wy] ∧ FigV K n H v F ∧ Pc K n H wy x y ∧ RetV (.str (letF F x y)) H Q
section
variable {P : Program} {w : World} {K : PySem.W.Frag} {mg : Str → Option Value} {base : Heap} {f C : Addr} {fd : FuncData} {n : Nat}
abbrev sLetBy : Stmt := top 41
theorem scLetBy : FnScope ["sort", "thing", "way", "piece", "sift"] ["sort", "thing", "way"] (defScope sLetBy) := ⟨rfl, rfl, rfl, by decide +kernel, rfl, by decide +kernel, by decide +kernel⟩
theorem ok_letBy (F : FnP K "let_by" sLetBy f fd) (O_block_meets : Own P w K mg base 4 "block_meets" ["block", "piece"] (spBm K n)) (O_pieces_meet : Own P w K mg base 4 "pieces_meet" ["one", "other"] (spPm K n)) (g_ALL_COLOURS : ∃ u, mg "ALL_COLOURS" = some u ∧ RelV (.str "rgb") u) : FnOk P w K mg base CX0 5 f fd ["sort", "thing", "way"] (spLetBy K n) := by
  have nd := scLetBy.nd
  obtain ⟨uA, g_ALL_COLOURS⟩ := g_ALL_COLOURS
  refine F.ok scLetBy (fun vs H Q E h => ?_) (fun cdv A outer s H vs Q E hr h => ⟨_, PSs.nox (pss_cons (ps_if (pt_cmpR op_eq (pv 0) pe_str (nomark _)) (pss_one (ps_ret (pe_ifExp (pt_val (Hs.pe_own O_block_meets hr (by first | decide | omega) (by rfl) (pa_cons (pv 1) (pa_cons (pv 2) pa_nil)))) pe_str (pe_glob (by rfl) g_ALL_COLOURS.1 g_ALL_COLOURS.2)))) pss_nil)
  (pss_cons (ps_asg (pv 1) (pg_tup rfl (pgs_cons (pg_name (i := 3) nd rfl (.inl rfl)) (pgs_cons (pg_name (i := 4) nd rfl (.inl rfl)) pgs_nil))))
  (pss_one (ps_ret (pe_ifExp (pt_val (Hs.pe_own O_pieces_meet hr (by first | decide | omega) (by rfl) (pa_cons (pv 3) (pa_cons (pv 2) pa_nil)))) (pv 4) (pe_glob (by rfl) g_ALL_COLOURS.1 g_ALL_COLOURS.2)))))), ?_⟩)
  · obtain ⟨F, v, wy, x, y, rfl, _⟩ := h
    rfl
  · obtain ⟨F, v, wy, x, y, rfl, hv, hw, k⟩ := h
    cases F with
    | post B =>
      obtain ⟨p, rfl, hp⟩ := hv
      refine q_when (b := true) (et_test (ev_op (ev_var rfl) ev_c (rv_eq rfl))) (fun _ H1 e1 => ?_) (fun ht => absurd ht (by decide +kernel))
      refine s_ret (v := .str (letF (.post B) x y)) (ev_if (b := decide (SatB B x y)) (et_test (ev_call (ea_cons (ev_var rfl) (ea_cons (ev_var rfl) ea_nil)) fun H2 e2 Q' q E' => ⟨p, wy, B, x, y, rfl, hp.ext (e1.trans e2), hw.ext (e1.trans e2), q⟩)) (fun hb => ?_) (fun hb => ?_)) fun H2 e2 => k H2 (e1.trans e2)
      · exact ev_is ev_c (by rw [letF, if_pos (of_decide_eq_true hb)])
      · exact ev_is ev_c (by rw [letF, if_neg (of_decide_eq_false hb)])
    | pane a b z =>
      obtain ⟨p, q, rfl, hp, hq⟩ := hv
      refine q_when (b := false) (et_test (ev_op (ev_var rfl) ev_c (rv_eq rfl))) (fun ht => absurd ht (by decide +kernel)) (fun _ H1 e1 => ?_)
      refine ⟨_, rfl, p, _, rfl, ex_t e1 hp, rfl, _, _, rfl, _, _, rfl, rfl, ?_⟩
      dsimp only [gName, List.set]
      refine s_ret (v := .str (letF (.pane a b z) x y)) (ev_if (b := decide (Sat a b x y)) (et_test (ev_call (ea_cons (ev_var rfl) (ea_cons (ev_var rfl) ea_nil)) fun H2 e2 Q' q' E' => ⟨q, wy, a, b, x, y, rfl, hq.ext (e1.trans e2), hw.ext (e1.trans e2), q'⟩)) (fun hb => ?_) (fun hb => ?_)) fun H2 e2 => k H2 (e1.trans e2)
      · exact ev_is (ev_var rfl) (by rw [letF, if_pos (of_decide_eq_true hb)])
      · exact ev_is ev_c (by rw [letF, if_neg (of_decide_eq_false hb)])
end
end Hs
namespace Hs
open PySem PySem.Spec PyProof.Rows L2 Evl
def spLetAllG (K : PySem.W.Frag) (n : Nat) : Sp := fun vs H Q _ => ∃ (a wy : Addr) (Fs : List Fig) (x y : Pt), vs = [.ref a, .ref wy] ∧ FigsA K n H a Fs ∧ (∀ F ∈ Fs, F.ok) ∧ Pc K n H wy x y ∧ RetV (.str (letAll Fs x y)) H Q
def spBroughtG (K : PySem.W.Frag) (n : Nat) : Sp := fun vs H Q _ => ∃ (a c p : Addr) (x y r g u : Int) (z : Pt) (Fs : List Fig), vs = [.ref a, .ref c, .ref p] ∧ FigsA K n H a Fs ∧ (∀ F ∈ Fs, F.ok) ∧ SqT K H c (iv [x, y, r, g, u]) ∧ (Bd n x ∧ Bd n y) ∧ Pl K n H p z ∧ RetU (tri (siftT (r, g, u) (letAll Fs (x, y) z))) H Q
section
variable {P : Program} {w : World} {K : PySem.W.Frag} {mg : Str → Option Value} {base : Heap} {f C : Addr} {fd : FuncData} {n : Nat}
abbrev sLetAll : Stmt := top 42
theorem scLetAll : FnScope ["figures", "way", "sift", "sort", "number", "thing"] ["figures", "way"] (defScope sLetAll) := ⟨rfl, rfl, rfl, by decide +kernel, rfl, by decide +kernel, by decide +kernel⟩
theorem ok_letAllG (F : FnP K "let_by_all" sLetAll f fd) (O_let_by : Own P w K mg base 5 "let_by" ["sort", "thing", "way"] (spLetBy K n)) (O_both_sifts : OwnX P w K mg base 4 "both_sifts" ["one", "other"] [] (spBoth C)) (g_ALL_COLOURS : ∃ u, mg "ALL_COLOURS" = some u ∧ RelV (.str "rgb") u) : FnOk P w K mg base CX0 6 f fd ["figures", "way"] (spLetAllG K n) := by
  have nd := scLetAll.nd
  obtain ⟨uA, g_ALL_COLOURS⟩ := g_ALL_COLOURS
  refine F.ok scLetAll (fun vs H Q E h => ?_) (fun cdv A outer s H vs Q E hr h => ⟨_, PSs.nox (pss_cons (ps_set (i := 2) nd rfl (.inl rfl) (pe_glob (by rfl) g_ALL_COLOURS.1 g_ALL_COLOURS.2))
  (pss_cons (ps_for PassesOwn.never rfl (pi_list (pv 0)) (pg_tup rfl (pgs_cons (pg_name (i := 3) nd rfl (.inl rfl)) (pgs_cons (pg_name (i := 4) nd rfl (.inl rfl)) (pgs_cons (pg_name (i := 5) nd rfl (.inl rfl)) pgs_nil)))) (pss_cons (ps_if (pt_cmpR op_eq (pv 2) pe_str (nomark _)) (pss_one ps_break) pss_nil)
  (pss_one (ps_set (i := 2) nd rfl (.inl rfl) (Hs.pe_ownX O_both_sifts hr (by first | decide | omega) (by rfl) (pa_cons (pv 2) (pa_cons (Hs.pe_own O_let_by hr (by first | decide | omega) (by rfl) (pa_cons (pv 3) (pa_cons (pv 5) (pa_cons (pv 1) pa_nil)))) pa_nil)))))))
  (pss_one (ps_ret (pv 2))))), ?_⟩)
  · obtain ⟨a, wy, Fs, x, y, rfl, _⟩ := h
    rfl
  · obtain ⟨a, wy, Fs, x, y, rfl, ⟨ps, ha, hl, hp⟩, hok, hw, k⟩ := h
    have e1 : ("rgb" : Str) ∈ S8 := by decide +kernel
    refine q_asg ev_c fun H1 x1 => ?_
    have done : ∀ (s : Str) (H' : Hp) (v3 v4 v5 : Option V), Ex H H' → s = letAll Fs x y → tRet (tVar 2) { nx := fun _ H' => Q .non H', rt := Q } [some (.ref a), some (.ref wy), some (.str s), v3, v4, v5] H' := fun s H' v3 v4 v5 e es => s_ret (ev_var rfl) fun H3 e3 => by
      rw [es]
      exact k H3 (e.trans e3)
    refine q_forL (ev_var rfl) (sq_of (x1 _ _ ha)) (fun i σ' H' => Ex H1 H' ∧ ∃ v3 v4 v5 : Option V, σ' = [some (.ref a), some (.ref wy), some (.str ((Fs.take i).foldl (letStep x y) "rgb")), v3, v4, v5]) (fun H2 e2 => ⟨e2, none, none, none, rfl⟩) (fun i σ' H' _ p => sq_of ((x1.trans p.1) _ _ ha)) (fun i v σ' H' hx p => ?_) (fun σ' H' p => ?_)
    · obtain ⟨e, v3, v4, v5, rfl⟩ := p
      rw [List.getElem?_map] at hx
      obtain ⟨q, hq, rfl⟩ := Option.map_eq_some_iff.mp hx
      obtain ⟨G, hG⟩ : ∃ G, Fs[i]? = some G := ⟨_, List.getElem?_eq_getElem (by rw [← hl]; exact (List.getElem?_eq_some_iff.mp hq).1)⟩
      obtain ⟨num, tv, h1, h2⟩ := hp i q G hq hG
      have e01 := x1.trans e
      have hS := letAll_S8 (x := x) (y := y) (Fs.take i) "rgb" e1 fun F hF => hok F (List.mem_of_mem_take hF)
      have hGo := hok G (List.mem_of_getElem? hG)
      refine ⟨q, _, rfl, st_of (e01 _ _ h1), rfl, _, _, rfl, _, _, rfl, _, _, rfl, rfl, ?_⟩
      dsimp only [gName, List.set]
      generalize hs : (Fs.take i).foldl (letStep x y) "rgb" = s at hS ⊢
      have hnext : (Fs.take (i + 1)).foldl (letStep x y) "rgb" = letStep x y s G := by rw [List.take_add_one, hG, List.foldl_append, hs] <;> rfl
      refine q_when (b := decide (V.str s = V.str "")) (et_test (ev_op (ev_var rfl) ev_c (rv_eq rfl))) (fun ht H2 e2 => ?_) (fun ht H2 e2 => ?_)
      · have es : s = "" := by injection of_decide_eq_true ht
        refine done s H2 _ _ _ (e01.trans e2) ?_
        unfold letAll
        rw [← List.take_append_drop i Fs, List.foldl_append, hs, es, letAll_end]
      · have es : ¬ s = "" := fun z => of_decide_eq_false ht (by rw [z])
        refine ⟨_, rfl, _, rfl, _, rfl, _, rfl, G, tv, wy, x, y, rfl, h2.ext (e01.trans e2), hw.ext (e01.trans e2), fun H3 e3 => ?_⟩
        refine ⟨s, letF G x y, rfl, S8_len hS, fun hz => ?_, fun _ H4 e4 => ⟨(e.trans e2).trans (e3.trans e4), some (.str G.sort), some (.int num), some tv, ?_⟩⟩
        · rw [good_of hS, good_of (letF_S8 hGo)] at hz
          cases hz
        · rw [hnext, letStep, if_neg es]
          rfl
    · obtain ⟨e, v3, v4, v5, rfl⟩ := p
      refine done _ H' _ _ _ (x1.trans e) ?_
      rw [List.length_map, hl, List.take_length] <;> rfl
abbrev sBrought : Stmt := top 43
theorem scBrought : FnScope ["figures", "choice", "point"] ["figures", "choice", "point"] (defScope sBrought) := ⟨rfl, rfl, rfl, by decide +kernel, rfl, by decide +kernel, by decide +kernel⟩
theorem ok_broughtG (F : FnP K "brought" sBrought f fd) (O_sifted : OwnX P w K mg base 4 "sifted" ["light", "sift"] [] (spSifted K C)) (O_let_by_all : Own P w K mg base 6 "let_by_all" ["figures", "way"] (spLetAllG K n)) : FnOk P w K mg base CX0 7 f fd ["figures", "choice", "point"] (spBroughtG K n) := by
  have nd := scBrought.nd
  refine F.ok scBrought (fun vs H Q E h => ?_) (fun cdv A outer s H vs Q E hr h => ⟨_, PSs.nox (pss_one (ps_ret (Hs.pe_ownX O_sifted hr (by first | decide | omega) (by rfl) (pa_cons (pe_slice sl_tupA (pv 1) (po_some pe_int) po_none) (pa_cons (Hs.pe_own O_let_by_all hr (by first | decide | omega) (by rfl) (pa_cons (pv 0) (pa_cons (pe_tup (pa_cons (pe_slice sl_tupA (pv 1) po_none (po_some pe_int)) (pa_cons (pv 2) pa_nil))) pa_nil))) pa_nil))))), ?_⟩)
  · obtain ⟨a, c, p, x, y, r, g, u, z, Fs, rfl, _⟩ := h
    rfl
  · obtain ⟨a, c, p, x, y, r, g, u, z, Fs, rfl, ha, hok, hc, hb, hp, k⟩ := h
    refine ⟨_, rfl, 2, rfl, c, _, rfl, hc, fun hw => absurd hw.1 (show ¬ (2 : Nat) = 0 by decide), fun _ t1 ht1 => ?_⟩
    have x1 := Ex.new (o := .tup (cutV (iv [x, y, r, g, u]) (some 2) none)) ht1
    have c1 : upd H t1 (.tup (cutV (iv [x, y, r, g, u]) (some 2) none)) t1 = some (.tup (tri (r, g, u))) := upd_same
    refine ⟨_, rfl, _, rfl, 2, rfl, c, _, rfl, ex_t x1 hc, fun hw => absurd hw.2 (show ¬ (2 : Nat) = 5 by decide), fun _ t2 ht2 => ⟨_, rfl, sz_of (by simp), fun t3 ht3 => ?_⟩⟩
    have y3 := Ex.new (o := .tup [V.ref t2, .ref p]) ht3
    have x2 := (Ex.new (o := .tup (cutV (iv [x, y, r, g, u]) none (some 2))) ht2).trans y3
    refine ⟨a, t3, Fs, (x, y), z, rfl, ha.ext (x1.trans x2), hok, ⟨t2, p, st_of upd_same, ⟨st_of (y3 _ _ upd_same), hb⟩, hp.ext (x1.trans x2)⟩, fun H1 e1 => ?_⟩
    have e01 := (x1.trans x2).trans e1
    have hS : letAll Fs (x, y) z ∈ S8 := letAll_S8 Fs "rgb" (by decide +kernel) hok
    exact ⟨t1, (r, g, u), letAll Fs (x, y) z, rfl, st_of ((x2.trans e1) _ _ c1), fun h => absurd h (by rw [good_of hS]; decide), fun _ q H2 hq e2 h2 => k q H2 (fresh_back e01 hq) (e01.trans e2) h2⟩
end
end Hs
namespace Hs
open PySem PySem.Spec PyProof.Rows L2 Evl
/-! ### the figures of a floor -/
/-- things of one sort, by their numbers -/
def ThingsA (K : PySem.W.Frag) (n : Nat) (H : Hp) (ts : List (Key × V)) (Fs : List Fig) : Prop := ts.length = Fs.length ∧ ∀ (i : Nat) (k : Key) (v : V) (F : Fig), ts[i]? = some (k, v) → Fs[i]? = some F → (∃ num : Int, k = .inl num) ∧ FigV K n H v F
theorem ThingsA.ext {K : PySem.W.Frag} {n : Nat} {H H' : Hp} {ts : List (Key × V)} {Fs : List Fig} (h : ThingsA K n H ts Fs) (e : Ex H H') : ThingsA K n H' ts Fs := ⟨h.1, fun i k v F h1 h2 => let ⟨a, b⟩ := h.2 i k v F h1 h2; ⟨a, b.ext e⟩⟩
def spFigsG (K : PySem.W.Frag) (n : Nat) : Sp := fun vs H Q _ => ∃ (a q2 q3 : Addr) (kvs t2 t3 : List (Key × V)) (F2 F3 : List Fig), vs = [.ref a] ∧ Fz H a kvs ∧ valV kvs (.inr "post") = some (.ref q2) ∧ valV kvs (.inr "pane") = some (.ref q3) ∧ Fz H q2 t2 ∧ Fz H q3 t3 ∧ ThingsA K n H t2 F2 ∧ ThingsA K n H t3 F3 ∧ (∀ F ∈ F2, F.sort = "post") ∧ (∀ F ∈ F3, F.sort = "pane") ∧ t2.length ≤ 1000 ∧ t3.length ≤ 1000 ∧
  ∀ p H', H p = none → Ex H H' → FigsA K n H' p (F2 ++ F3) → Q (.ref p) H'
section
variable {P : Program} {w : World} {K : PySem.W.Frag} {mg : Str → Option Value} {base : Heap} {f C : Addr} {fd : FuncData} {n : Nat}
abbrev sFigs : Stmt := top 40
theorem scFigs : FnScope ["floor", "sort", "number", "thing"] ["floor"] (defScope sFigs) := ⟨rfl, rfl, rfl, by decide +kernel, rfl, by decide +kernel, by decide +kernel⟩
def preF (F2 F3 : List Fig) : Nat → List Fig
  | 0 => []
  | 1 => F2
  | _ => F2 ++ F3
/-- the list in the making: what stands before is kept, D holds the figures so far -/
def FigI (K : PySem.W.Frag) (n : Nat) (H0 H' : Hp) (D : Addr) (Fs : List Fig) : Prop := Ex H0 H' ∧ FigsA K n H' D Fs
theorem FigI.next {K : PySem.W.Frag} {n : Nat} {H0 H1 H2 : Hp} {D T : Addr} {Fs : List Fig} {F : Fig} {num : Int} {v : V} (h : FigI K n H0 H1 D Fs) (hD : H0 D = none) (e : Ex H1 H2) (hT : H2 T = some (.tup [.str F.sort, .int num, v])) (hv : FigV K n H2 v F) (hz : Fs.length ≤ 5000) :
    ∃ acc, H2 D = some (.lst acc) ∧ acc.length < sizeLine ∧ FigI K n H0 (upd H2 D (.lst (acc ++ [.ref T]))) D (Fs ++ [F]) := by
  obtain ⟨e0, ps, h1, h2, h3⟩ := h
  have hD2 := e _ _ h1
  have tupk : ∀ {K : PySem.W.Frag} {a : Addr} {xs : List V} {o : HO}, SqT K H2 a xs → SqT K (upd H2 D o) a xs := fun {K a xs o} h => by
    rcases h with (h | ⟨od, h⟩) | h
    · exact .inl (.inl (by rw [upd_ne (ne_of h hD2 (by intro z; cases z))]; exact h))
    · exact .inl (.inr ⟨od, by rw [upd_ne (ne_of h hD2 (by intro z; cases z))]; exact h⟩)
    · exact .inr h
  have figk : ∀ {v : V} {G : Fig} {o : HO}, FigV K n H2 v G → FigV K n (upd H2 D o) v G := fun {v G o} h => by
    cases G with
    | post B =>
      obtain ⟨p, rfl, hp⟩ := h
      exact ⟨p, rfl, tupk hp.1, hp.2⟩
    | pane a b z =>
      obtain ⟨p, q, rfl, hp, c, d, g1, g2, g3⟩ := h
      exact ⟨p, q, rfl, tupk hp, c, d, tupk g1, ⟨tupk g2.1, g2.2⟩, ⟨tupk g3.1, g3.2⟩⟩
  refine ⟨_, hD2, by rw [List.length_map, h2, sizeLine_eq]; omega, Ex.mut (e0.trans e) hD, ps ++ [T], by rw [upd_same, List.map_append] <;> rfl, by rw [List.length_append, List.length_append, h2] <;> rfl, fun i p G hp hG => ?_⟩
  by_cases hj : i < ps.length
  · rw [List.getElem?_append_left hj] at hp
    rw [List.getElem?_append_left (by rw [← h2]; exact hj)] at hG
    obtain ⟨m, u, g1, g2⟩ := h3 i p G hp hG
    exact ⟨m, u, by rw [upd_ne (ne_of (e _ _ g1) hD2 (by intro z; cases z))]; exact e _ _ g1, figk (g2.ext e)⟩
  · rw [List.getElem?_append_right (by omega)] at hp
    rw [List.getElem?_append_right (by rw [← h2]; omega), ← h2] at hG
    have e00 : i - ps.length = 0 := by
      have : i - ps.length < 1 := (List.getElem?_eq_some_iff.mp hp).1
      omega
    rw [e00] at hp hG
    cases hp
    cases hG
    exact ⟨num, v, by rw [upd_ne (ne_of hT hD2 (by intro z; cases z))]; exact hT, figk hv⟩
theorem ok_figsG (F : FnP K "figures_of" sFigs f fd) : FnOk P w K mg base CX0 1 f fd ["floor"] (spFigsG K n) := by
  have nd := scFigs.nd
  refine F.ok scFigs (fun vs H Q E h => ?_) (fun cdv A outer s H vs Q E hr h => ⟨_, PSs.nox (pss_one (ps_ret (pe_lc2 (own := [("sort", 1), ("number", 2), ("thing", 3)]) (vs1 := [2, 3]) (g := (gName 1)) (g1 := (gTup K 2 (gCons (gName 2) (gCons (gName 3) gNil)))) rfl nd (pi_tup (pe_tup (pa_cons pe_str (pa_cons pe_str pa_nil)))) (blkOk_by (N := ["floor", "sort", "number", "thing"]) (sc := defScope (Hs.top 40)) (by decide +kernel)) (by decide) (fun _ _ _ _ _ => (pg_name (i := 1) nd rfl (Or.inl rfl))) (fun _ _ _ _ _ => pts_nil) (fun _ _ _ _ _ => (pi_items (pe_dget (Hs.un1 hr) (pv 0) (pv 1) (fun _ _ => rfl)))) (fun _ _ _ _ _ => (pg_tup rfl (pgs_cons (pg_name (i := 2) nd rfl (Or.inl rfl)) (pgs_cons (pg_name (i := 3) nd rfl (Or.inl rfl)) pgs_nil)))) (fun _ _ _ _ _ => pts_nil) (fun _ _ _ _ _ => (pe_tup (pa_cons (pv 1) (pa_cons (pv 2) (pa_cons (pv 3) pa_nil)))))))), ?_⟩)
  · obtain ⟨a, q2, q3, kvs, t2, t3, F2, F3, rfl, _⟩ := h
    rfl
  · obtain ⟨a, q2, q3, kvs, t2, t3, F2, F3, rfl, ha, v2, v3, h2, h3, g2, g3, s2, s3, z2, z3, k⟩ := h
    refine ⟨sz_of (by simp), fun tp htp => ⟨tp, rfl, ⟨_, st_of upd_same⟩, fun D hD => ?_⟩⟩
    have x1 := Ex.new (o := .tup [V.str "post", .str "pane"]) htp
    have x2 := Ex.new (o := .lst []) hD
    have htp1 := upd_same (H := H) (a := tp) (o := .tup [V.str "post", .str "pane"])
    generalize upd H tp (.tup [V.str "post", .str "pane"]) = H1 at x1 x2 htp1 hD ⊢
    refine ⟨fun i m H' => FigI K n H1 H' D (preF F2 F3 i) ∧ i ≤ 2 ∧ m = 2 - i, ⟨_, ⟨x2, [], upd_same, rfl, (fun j p G hj => by cases hj)⟩, Nat.zero_le _, rfl⟩, ?_⟩
    rintro i m H' ⟨I0, hi, rfl⟩
    have e := I0.1
    have htp' := e _ _ htp1
    by_cases hlt : i < 2
    · obtain ⟨so, q, ts, Fs, Fp, hso, hv, hq, hg, hsort, hz, hp0, hp1, hpz⟩ : ∃ (so : Str) (q : Addr) (ts : List (Key × V)) (Fs Fp : List Fig), [V.str "post", .str "pane"][i]? = some (.str so) ∧ valV kvs (.inr so) = some (.ref q) ∧ Fz H q ts ∧ ThingsA K n H ts Fs ∧ (∀ F ∈ Fs, F.sort = so) ∧ ts.length ≤ 1000 ∧ Fp = (preF F2 F3 i) ∧ Fp ++ Fs = (preF F2 F3 (i + 1)) ∧ Fp.length ≤ 1000 := by
        match i, hlt with
        | 0, _ => exact ⟨_, q2, t2, F2, [], rfl, v2, h2, g2, s2, z2, rfl, rfl, Nat.zero_le _⟩
        | 1, _ => exact ⟨_, q3, t3, F3, F2, rfl, v3, h3, g3, s3, z3, rfl, rfl, by rw [← g2.1]; exact z2⟩
      rw [← hp0] at I0
      refine .inr ⟨⟨_, _, st_of htp', hso⟩, fun H2 => FigI K n H1 H2 D (Fp ++ Fs), fun H2 z => ⟨2 - (i + 1), by omega, by rw [← hp1]; exact z, by omega, rfl⟩, fun x H2 hy => ?_⟩
      obtain ⟨rfl, hy⟩ := hy
      have ex : some x = some (V.str so) := (hy _ (st_of htp')).symm.trans hso
      cases ex
      refine ⟨rfl, ?_⟩
      simp only [tYes, if_true]
      obtain ⟨od, hq'⟩ := (hq.ext x1).ext e
      refine ⟨_, rfl, _, rfl, a, _, rfl, by have z := ((ha.ext x1).ext e).get (k := .inr so); rw [hv] at z; exact z, q, od, ts, rfl, hq', ?_⟩
      refine ⟨fun j m H3 => FigI K n H1 H3 D (Fp ++ Fs.take j) ∧ H3 q = some (.frz od (.dK ts)) ∧ j ≤ ts.length ∧ m = ts.length - j, ⟨_, by rw [List.take_zero, List.append_nil]; exact I0, hq', Nat.zero_le _, rfl⟩, ?_⟩
      rintro j m H3 ⟨I3, hq3, hj, rfl⟩
      by_cases hjl : j < ts.length
      · obtain ⟨⟨key, v⟩, hkv⟩ : ∃ z, ts[j]? = some z := ⟨_, List.getElem?_eq_getElem hjl⟩
        obtain ⟨G, hG⟩ : ∃ z, Fs[j]? = some z := ⟨_, List.getElem?_eq_getElem (by rw [← hg.1]; exact hjl)⟩
        refine .inr ⟨⟨hq3, hjl⟩, fun H4 => FigI K n H1 H4 D (Fp ++ Fs.take (j + 1)) ∧ H4 q = some (.frz od (.dK ts)), fun H4 z => ⟨ts.length - (j + 1), by omega, z.1, z.2, hjl, rfl⟩, fun x H4 hy => ?_⟩
        obtain ⟨T, k', v', hk', rfl, hT, rfl⟩ := hy
        rw [hkv] at hk'
        cases hk'
        have eT := Ex.new (o := .tup [kV key, v]) hT
        obtain ⟨⟨num, rfl⟩, hvG⟩ := ((hg.ext x1).ext (I3.1.trans eT)).2 j _ v G hkv hG
        refine ⟨T, _, rfl, st_of upd_same, rfl, _, _, rfl, _, _, rfl, rfl, rfl, ?_⟩
        simp only [tYes, if_true]
        refine ⟨_, rfl, _, rfl, _, rfl, sz_of (by simp), fun U hU => ?_⟩
        have eU := Ex.new (o := .tup [V.str so, .int num, v]) hU
        obtain ⟨acc, a1, a2, a3⟩ := I3.next hD (eT.trans eU) (F := G) (num := num) (v := v) (T := U) (by rw [hsort G (List.mem_of_getElem? hG)]; exact upd_same) (hvG.ext eU) (by rw [List.length_append, List.length_take]; omega)
        refine ⟨acc, a1, a2, ?_, ?_⟩
        · rw [List.take_add_one, hG]
          show FigI K n H1 _ D (Fp ++ (Fs.take j ++ [G]))
          rw [← List.append_assoc]
          exact a3
        · rw [upd_ne (ne_of ((eT.trans eU) _ _ hq3) a1 (by intro z; cases z))]
          exact (eT.trans eU) _ _ hq3
      · have ej : j = ts.length := by omega
        subst ej
        rw [hg.1, List.take_length] at I3
        exact .inl ⟨⟨hq3, Nat.le_refl _⟩, I3⟩
    · have ei : i = 2 := by omega
      subst ei
      exact .inl ⟨⟨_, st_of htp', Nat.le_refl _⟩, k D H' (fresh_back x1 hD) (x1.trans e) I0.2⟩
end
end Hs
namespace Hs
open PySem PySem.Spec PyProof.Rows L2 Evl
theorem pi_tupK {X : Cx} {K : PySem.W.Frag} {tg l : Expr} {tl : TE} (hl : PE X l tl) (hK : X.K = K := by rfl) : PI X tg l (iTup K tl) := by
  subst hK
  exact pi_tup hl
/-- a dict comprehension over what is walked -/
theorem dc_it {J : It} {n : Nat} {G : Hp → Prop} {Y : Nat → Hp → V → Hp → Prop} (w : Walk J n G Y) {g : TG} {tt : TT} {tk tv : TE} {vs : List Nat} {σ : L2.St} {H1 : Hp} {D : Addr} {Qd : Hp → Prop} (Pv : Nat → Hp → Prop) (h0 : Pv 0 (upd H1 D (.dK []))) (hG : ∀ i H, i ≤ n → Pv i H → G H) (hs : ∀ i x H H', i < n → Pv i H → Y i H x H' → g x (wipe σ vs) H' fun σ2 H2 => wipe σ2 vs = wipe σ vs ∧ tt σ2 H2 fun b H3 => if b = true then tk σ2 H3 fun y H4 => tv σ2 H4 fun z H5 => ∃ kvs k, y = kV k ∧ H5 D = some (.dK kvs) ∧ kvs.length < sizeLine ∧ Pv (i + 1) (upd H5 D (.dK (putK kvs k z))) else Pv (i + 1) H3) (hd : ∀ H, Pv n H → Qd H) :
    ∃ W : Nat → Nat → Hp → Prop, (∃ m, W 0 m (upd H1 D (.dK []))) ∧ ∀ i m H, W i m H → (J.stop i H ∧ Qd H) ∨ (J.go i H ∧ ∃ Nx : Hp → Prop, (∀ H', Nx H' → ∃ m', m' < m ∧ W (i + 1) m' H') ∧ ∀ x H', J.yld i H x H' → g x (wipe σ vs) H' fun σ2 H2 => wipe σ2 vs = wipe σ vs ∧ tt σ2 H2 fun b H3 => if b = true then tk σ2 H3 fun y H4 => tv σ2 H4 fun z H5 => ∃ kvs k, y = kV k ∧ H5 D = some (.dK kvs) ∧ kvs.length < sizeLine ∧ Nx (upd H5 D (.dK (putK kvs k z))) else Nx H3) := by
  refine ⟨fun i m H => m = n - i ∧ i ≤ n ∧ Pv i H, ⟨n, (Nat.sub_zero n).symm, Nat.zero_le _, h0⟩, ?_⟩
  rintro i m H ⟨rfl, hi, p⟩
  have gg := hG i H hi p
  rcases Nat.lt_or_ge i n with hlt | hge
  · exact .inr ⟨w.goes i H hlt gg, Pv (i + 1), fun H' p' => ⟨n - (i + 1), by omega, rfl, hlt, p'⟩, fun x H' y => hs i x H H' hlt p (w.yields i H x H' hlt gg y)⟩
  · have e : i = n := Nat.le_antisymm hi hge
    subst e
    exact .inl ⟨w.stops H gg, hd H p⟩
theorem sqt_upd {K : PySem.W.Frag} {H : Hp} {a r : Addr} {xs : List V} {o u : HO} (h : SqT K H a xs) (hr : H r = some u) (n1 : ∀ ys, HO.tup ys ≠ u) (n2 : ∀ od v, HO.frz od v ≠ u) : SqT K (upd H r o) a xs := by
  rcases h with (h | ⟨od, h⟩) | h
  · exact .inl (.inl (by rw [upd_ne (ne_of h hr (n1 _))]; exact h))
  · exact .inl (.inr ⟨od, by rw [upd_ne (ne_of h hr (n2 _ _))]; exact h⟩)
  · exact .inr h
theorem Lights.ext {K : PySem.W.Frag} {H H' : Hp} {ps : List Addr} {xs : List Tri} (h : Lights K H ps xs) (e : Ex H H') : Lights K H' ps xs := ⟨h.1, fun i p x hp hx => ex_t e (h.2 i p x hp hx)⟩
theorem Lights.upd {K : PySem.W.Frag} {H : Hp} {ps : List Addr} {xs : List Tri} {r : Addr} {o u : HO} (h : Lights K H ps xs) (hr : H r = some u) (n1 : ∀ ys, HO.tup ys ≠ u) (n2 : ∀ od v, HO.frz od v ≠ u) : Lights K (L2.upd H r o) ps xs := ⟨h.1, fun i p x hp hx => sqt_upd (h.2 i p x hp hx) hr n1 n2⟩
theorem Lights.snoc {K : PySem.W.Frag} {H : Hp} {ps : List Addr} {xs : List Tri} {q : Addr} {y : Tri} (h : Lights K H ps xs) (hq : SqT K H q (tri y)) : Lights K H (ps ++ [q]) (xs ++ [y]) := by
  refine ⟨by rw [List.length_append, List.length_append, h.1] <;> rfl, fun j p r' hp hr => ?_⟩
  by_cases hj : j < ps.length
  · rw [List.getElem?_append_left hj] at hp
    rw [List.getElem?_append_left (by rw [← h.1]; exact hj)] at hr
    exact h.2 j p r' hp hr
  · rw [List.getElem?_append_right (by omega)] at hp
    rw [List.getElem?_append_right (by rw [← h.1]; omega), ← h.1] at hr
    have e0 : j - ps.length = 0 := by
      have : j - ps.length < 1 := (List.getElem?_eq_some_iff.mp hp).1
      omega
    rw [e0] at hp hr
    cases hp
    cases hr
    exact hq
/-! ### lamps with their choices -/
abbrev Chc := Int × Int × Tri
def chv (c : Chc) : List V := iv [c.1, c.2.1, c.2.2.1, c.2.2.2.1, c.2.2.2.2]
structure LampG (H : Hp) (th : Addr) (cs : List Chc) (on : Bool) : Prop where
  ex : ∃ (ch : Addr) (ps : List Addr), H th = some (.tup [.ref ch, .bl on]) ∧ H ch = some (.tup (ps.map V.ref)) ∧ ps.length = cs.length ∧ ∀ (i : Nat) (p : Addr) (c : Chc), ps[i]? = some p → cs[i]? = some c → H p = some (.tup (chv c))
theorem LampG.keep {H H' : Hp} {th : Addr} {on : Bool} {cs : List Chc} (h : LampG H th cs on) (e : ∀ p xs, H p = some (.tup xs) → H' p = some (.tup xs)) : LampG H' th cs on := by
  obtain ⟨ch, ps, h1, h2, h3, h4⟩ := h.ex
  exact ⟨ch, ps, e _ _ h1, e _ _ h2, h3, fun i p c hp hc => e _ _ (h4 i p c hp hc)⟩
def LampsG (H : Hp) (ts : List (Key × V)) (ls : List (List Chc × Bool)) : Prop := ts.length = ls.length ∧ ∀ (i : Nat) (k : Key) (v : V) (z : List Chc × Bool), ts[i]? = some (k, v) → ls[i]? = some z → ∃ th, v = .ref th ∧ LampG H th z.1 z.2
theorem LampsG.keep {H H' : Hp} {ts : List (Key × V)} {ls : List (List Chc × Bool)} (h : LampsG H ts ls) (e : ∀ p xs, H p = some (.tup xs) → H' p = some (.tup xs)) : LampsG H' ts ls := ⟨h.1, fun i k v z h1 h2 => let ⟨th, e1, l⟩ := h.2 i k v z h1 h2; ⟨th, e1, l.keep e⟩⟩
theorem LampsG.ext {H H' : Hp} {ts : List (Key × V)} {ls : List (List Chc × Bool)} (h : LampsG H ts ls) (e : Ex H H') : LampsG H' ts ls := h.keep fun _ _ z => e _ _ z
def nOn (ls : List (List Chc × Bool)) : List (Nat × Bool) := ls.map fun z => (z.1.length, z.2)
theorem LampsG.a {H : Hp} {ts : List (Key × V)} {ls : List (List Chc × Bool)} (h : LampsG H ts ls) : LampsA H ts (nOn ls) := by
  refine ⟨by rw [h.1, nOn, List.length_map], fun i k v n on h1 h2 => ?_⟩
  unfold nOn at h2
  rw [List.getElem?_map] at h2
  obtain ⟨z, hz, e⟩ := Option.map_eq_some_iff.mp h2
  cases e
  obtain ⟨th, rfl, l⟩ := h.2 i k v z h1 hz
  obtain ⟨ch, ps, q1, q2, q3, _⟩ := l.ex
  exact ⟨th, ch, _, rfl, q1, q2, by rw [List.length_map, q3]⟩
/-- what a lamp's choices bring -/
def rowT (L : Chc → Tri) (z : List Chc × Bool) : List Tri := z.1.map fun c => if z.2 = true then L c else (0, 0, 0)
def RowA (K : PySem.W.Frag) (H : Hp) (r : Addr) (xs : List Tri) : Prop := ∃ ps : List Addr, H r = some (.lst (ps.map V.ref)) ∧ Lights K H ps xs
theorem RowA.ext {K : PySem.W.Frag} {H H' : Hp} {r : Addr} {xs : List Tri} (h : RowA K H r xs) (e : Ex H H') : RowA K H' r xs := let ⟨ps, h1, h2⟩ := h; ⟨ps, e _ _ h1, h2.ext e⟩
theorem RowA.upd {K : PySem.W.Frag} {H : Hp} {r D : Addr} {xs : List Tri} {o : HO} {kvs : List (Key × V)} (h : RowA K H r xs) (hD : H D = some (.dK kvs)) : RowA K (L2.upd H D o) r xs := by
  obtain ⟨ps, h1, h2⟩ := h
  exact ⟨ps, by rw [upd_ne (ne_of h1 hD (by intro z; cases z))]; exact h1, h2.upd hD (by intro _ z; cases z) (by intro _ _ z; cases z)⟩
def tabV (ts : List (Key × V)) (rs : List Addr) : List (Key × V) := (List.range rs.length).map fun j => ((ts.getD j (.inl 0, .non)).1, V.ref (rs.getD j 0))
theorem tabV_next {ts : List (Key × V)} {rs : List Addr} {r : Addr} {k : Key} {v : V} (hn : (ts.map (·.1)).Nodup) (h : ts[rs.length]? = some (k, v)) : putK (tabV ts rs) k (.ref r) = tabV ts (rs ++ [r]) := by
  have hi : rs.length < ts.length := (List.getElem?_eq_some_iff.mp h).1
  rw [putK_new]
  · unfold tabV
    rw [List.length_append, List.length_singleton, List.range_succ, List.map_append, List.map_singleton]
    congr 1
    · refine List.map_congr_left fun j hj => ?_
      have hj := List.mem_range.mp hj
      rw [List.getD_eq_getElem?_getD (l := rs ++ [r]), List.getElem?_append_left hj, ← List.getD_eq_getElem?_getD]
    · rw [List.getD_eq_getElem?_getD (i := rs.length), h, List.getD_eq_getElem?_getD (l := rs ++ [r]), List.getElem?_append_right (Nat.le_refl _), Nat.sub_self] <;> rfl
  · intro p hp e
    unfold tabV at hp
    obtain ⟨j, hj, rfl⟩ := List.mem_map.mp hp
    have hj := List.mem_range.mp hj
    have e2 : (ts.map (·.1))[j]? = (ts.map (·.1))[rs.length]? := by
      rw [List.getElem?_map, List.getElem?_map, h, List.getElem?_eq_getElem (by omega)]
      have e3 : (ts.getD j (.inl 0, .non)).1 = k := e
      rw [List.getD_eq_getElem?_getD, List.getElem?_eq_getElem (by omega)] at e3
      show some (ts[j]).1 = some k
      rw [← e3] <;> rfl
    have := (List.getElem?_inj (by rw [List.length_map]; omega) hn).mp e2
    omega
def ChB (c : Chc) : Prop := Bd 20 c.1 ∧ Bd 20 c.2.1
/-- by the figures at a each choice brings L to the point at p -/
def BrBy (K : PySem.W.Frag) (spB : Sp) (p : Addr) (L : Chc → Tri) (a : Addr) (H1 : Hp) : Prop := ∀ (H2 : Hp), Ex H1 H2 → ∀ (c : Chc) (q : Addr), ChB c → SqT K H2 q (chv c) → ∀ Q' : VK, RetU (tri (L c)) H2 Q' → spB [.ref a, .ref q, .ref p] H2 Q' E0
/-- a new table of rows -/
def RetTab (K : PySem.W.Frag) (L : Chc → Tri) (ts : List (Key × V)) (ls : List (List Chc × Bool)) (H : Hp) (Q : VK) : Prop := ∀ (D : Addr) (H' : Hp) (rs : List Addr), H D = none → Ex H H' → rs.length = ts.length → Fz H' D (tabV ts rs) → (∀ (i : Nat) (r : Addr) (z : List Chc × Bool), rs[i]? = some r → ls[i]? = some z → RowA K H' r (rowT L z)) → Q (.ref D) H'
def spChoice (K : PySem.W.Frag) (spF spB : Sp) : Sp := fun vs H Q _ => ∃ (fl p b : Addr) (kvs ts : List (Key × V)) (ls : List (List Chc × Bool)) (L : Chc → Tri), vs = [.ref fl, .ref p] ∧ Fz H fl kvs ∧ valV kvs (.inr "lamp") = some (.ref b) ∧ Fz H b ts ∧ LampsG H ts ls ∧ (ts.map (·.1)).Nodup ∧ ts.length ≤ 1000 ∧ (∀ z ∈ ls, z.1.length ≤ 1000) ∧ (∀ z ∈ ls, ∀ c ∈ z.1, ChB c) ∧
  (∀ Q' : VK, (∀ a H1, Ex H H1 → BrBy K spB p L a H1 → Q' (.ref a) H1) → spF [.ref fl] H Q' E0) ∧ RetTab K L ts ls H Q
section
variable {P : Program} {w : World} {K : PySem.W.Frag} {mg : Str → Option Value} {base : Heap} {f C Dk : Addr} {fd : FuncData} {spF spB : Sp}
abbrev sChoice : Stmt := top 44
theorem scChoice : FnScope ["floor", "point", "figures", "number", "choices", "on", "choice"] ["floor", "point"] (defScope sChoice) := ⟨rfl, rfl, rfl, by decide +kernel, rfl, by decide +kernel, by decide +kernel⟩
theorem ok_choice (F : FnP K "choice_lights" sChoice f fd) (O_figures_of : Own P w K mg base 1 "figures_of" ["floor"] spF) (O_brought : Own P w K mg base 7 "brought" ["figures", "choice", "point"] spB) (g_DARK : mg "DARK" = some (.ref Dk) ∧ RelV (.ref Dk) (.ref Dk)) (hDk : ∀ H, SqT K H Dk (tri (0, 0, 0))) : FnOk P w K mg base CX0 8 f fd ["floor", "point"] (spChoice K spF spB) := by
  have nd := scChoice.nd
  refine F.ok scChoice (fun vs H Q E h => ?_) (fun cdv A outer s H vs Q E hr h => ⟨_, PSs.nox (pss_cons (ps_set (i := 2) nd rfl (.inr rfl) (Hs.pe_own O_figures_of hr (by first | decide | omega) (by rfl) (pa_cons (pv 0) pa_nil)))
  (pss_one (ps_ret (Hs.pe_frz (pe_dc (own := [("number", 3), ("choices", 4), ("on", 5)]) (g := (gTup K 2 (gCons (gName 3) (gCons (gTup K 2 (gCons (gName 4) (gCons (gName 5) gNil))) gNil)))) rfl nd (pi_items (pe_dget (Hs.un1 hr) (pv 0) pe_str (fun _ _ => rfl))) (blkOk_by (N := ["floor", "point", "figures", "number", "choices", "on", "choice"]) (sc := defScope (Hs.top 44)) (by decide +kernel)) (fun _ _ _ _ _ => (pg_tup rfl (pgs_cons (pg_name (i := 3) nd rfl (Or.inl rfl)) (pgs_cons (pg_tup rfl (pgs_cons (pg_name (i := 4) nd rfl (Or.inl rfl)) (pgs_cons (pg_name (i := 5) nd rfl (Or.inr rfl)) pgs_nil))) pgs_nil)))) (fun _ _ _ _ _ => pts_nil) (fun _ _ _ _ _ => (pv 3)) (fun _ _ _ _ _ => (pe_lc (own := [("choice", 6)]) rfl nd (Hs.pi_tupK (K := K) (pv 4)) (blkOk_by (N := ["floor", "point", "figures", "number", "choices", "on", "choice"]) (by rfl)) (fun _ _ _ _ _ => (pg_name (i := 6) nd rfl (Or.inl rfl))) (fun _ _ _ _ _ => pts_nil) (fun _ _ _ _ _ => (pe_ifExp (pt_val (pv 5)) (Hs.pe_own O_brought hr (by first | decide | omega) (by rfl) (pa_cons (pv 2) (pa_cons (pv 6) (pa_cons (pv 1) pa_nil)))) (pe_glob (by rfl) g_DARK.1 g_DARK.2)))))))))), ?_⟩)
  · obtain ⟨fl, p, b, kvs, ts, ls, L, rfl, _⟩ := h
    rfl
  · obtain ⟨fl, p, b, kvs, ts, ls, L, rfl, hf, hv, hb, hL, hn, hz, hc, hcb, kF, k⟩ := h
    refine ⟨_, rfl, kF _ fun a H1 e1 hB => ?_⟩
    dsimp only [gName, List.set]
    obtain ⟨od, hb1⟩ := hb.ext e1
    refine ⟨_, rfl, fl, _, rfl, by have z := (hf.ext e1).get (k := .inr "lamp"); rw [hv] at z; exact z, b, od, ts, rfl, hb1, fun D hD => ?_⟩
    refine dc_it walk_items (fun i H' => Ex H1 H' ∧ ∃ rs : List Addr, rs.length = i ∧ (∀ (j : Nat) (r : Addr) (z : List Chc × Bool), rs[j]? = some r → ls[j]? = some z → RowA K H' r (rowT L z)) ∧ H' D = some (.dK (tabV ts rs))) ⟨Ex.new hD, [], rfl, (fun j r z hj => by cases hj), upd_same⟩ (fun i H' _ q => q.1 _ _ hb1) (fun i x H' H'' hi q y => ?_) (fun H' q => ?_)
    · obtain ⟨e, rs, hrl, hrs, hD'⟩ := q
      obtain ⟨T, x1, x2, rfl, hT, rfl, f1, f2⟩ := y
      obtain ⟨⟨key, v⟩, hkv⟩ : ∃ z, ts[i]? = some z := ⟨_, List.getElem?_eq_getElem hi⟩
      obtain ⟨⟨cs, on⟩, hln⟩ : ∃ z, ls[i]? = some z := ⟨_, List.getElem?_eq_getElem (by rw [← hL.1]; exact hi)⟩
      dsimp only at f1 f2
      rw [hkv] at f1 f2
      cases f1
      cases f2
      have eT := Ex.new (o := .tup [kV key, v]) hT
      have e1T := e.trans eT
      obtain ⟨th, rfl, lg⟩ := ((hL.ext e1).ext e1T).2 i key v _ hkv hln
      obtain ⟨ch, ps, h1, h2, h3, h4⟩ := lg.ex
      dsimp only at h1 h3 h4
      have hcl : cs.length ≤ 1000 := hc _ (List.mem_of_getElem? hln)
      refine ⟨T, _, rfl, st_of upd_same, rfl, _, _, rfl, _, _, rfl, ⟨th, _, rfl, st_of h1, rfl, _, _, rfl, _, _, rfl, rfl, rfl, rfl, ?_⟩⟩
      simp only [tYes, if_true]
      refine ⟨_, rfl, _, rfl, ch, rfl, ⟨_, st_of h2⟩, fun R hR => ?_⟩
      have xR := Ex.new (o := .lst []) hR
      refine lc_tup (xs := ps.map V.ref) (fun j H3 => Ex (upd H' T (.tup [kV key, .ref th])) H3 ∧ ∃ qs : List Addr, H3 R = some (.lst (qs.map V.ref)) ∧ Lights K H3 qs ((rowT L (cs, on)).take j)) ⟨xR, [], upd_same, rfl, (fun j p x hj => by cases hj)⟩ (fun j H3 _ w => st_of (w.1 _ _ h2)) (fun j x H3 hj w => ?_) (fun H3 w => ?_)
      · obtain ⟨e3, qs, hR3, hq3⟩ := w
        rw [List.getElem?_map] at hj
        obtain ⟨pj, hpj, rfl⟩ := Option.map_eq_some_iff.mp hj
        obtain ⟨c, hcj⟩ : ∃ c, cs[j]? = some c := ⟨_, List.getElem?_eq_getElem (by rw [← h3]; exact (List.getElem?_eq_some_iff.mp hpj).1)⟩
        have hrow : (rowT L (cs, on))[j]? = some (if on = true then L c else (0, 0, 0)) := by
          unfold rowT
          rw [List.getElem?_map, hcj] <;> rfl
        have hql : qs.length ≤ 1000 := by
          rw [hq3.1, List.length_take, rowT, List.length_map]
          dsimp only
          omega
        refine ⟨rfl, ?_⟩
        simp only [tYes, if_true]
        have add : ∀ (q : Addr) (H4 : Hp) (x : Tri), Ex H3 H4 → (rowT L (cs, on))[j]? = some x → SqT K H4 q (tri x) → ∃ acc, H4 R = some (.lst acc) ∧ acc.length < sizeLine ∧ Ex (upd H' T (.tup [kV key, .ref th])) (upd H4 R (.lst (acc ++ [.ref q]))) ∧ ∃ qs : List Addr, upd H4 R (.lst (acc ++ [.ref q])) R = some (.lst (qs.map V.ref)) ∧ Lights K (upd H4 R (.lst (acc ++ [.ref q]))) qs ((rowT L (cs, on)).take (j + 1)) := fun q H4 x e4 hx hq => by
          have hR4 := e4 _ _ hR3
          refine ⟨_, hR4, by rw [List.length_map, sizeLine_eq]; omega, Ex.mut (e3.trans e4) hR, qs ++ [q], by rw [upd_same, List.map_append] <;> rfl, ?_⟩
          rw [List.take_add_one, hx]
          exact ((hq3.ext e4).upd hR4 (by intro _ z; cases z) (by intro _ _ z; cases z)).snoc (sqt_upd hq hR4 (by intro _ z; cases z) (by intro _ _ z; cases z))
        refine (et_test (b := on) (ev_var rfl)) _ (Ex.refl _) _ fun H5 e5 => ?_
        cases on with
        | true =>
          refine ite_T rfl ⟨_, rfl, _, rfl, _, rfl, ?_⟩
          exact hB H5 ((e1T.trans e3).trans e5) c pj (hcb _ (List.mem_of_getElem? hln) c (List.mem_of_getElem? hcj)) (st_of ((e3.trans e5) _ _ (h4 j pj c hpj hcj))) _ fun q H6 hq e6 h6 => add q H6 _ (e5.trans e6) hrow (st_of h6)
        | false => exact ite_F rfl (add Dk H5 _ e5 hrow (hDk H5))
      · obtain ⟨e3, qs, hR3, hq3⟩ := w
        have eH := eT.trans e3
        have hD3 := eH _ _ hD'
        refine ⟨_, key, rfl, hD3, ?_, Ex.mut (e.trans eH) hD, rs ++ [R], by rw [List.length_append, hrl] <;> rfl, fun j r z hj hzj => ?_, ?_⟩
        · rw [tabV, List.length_map, List.length_range, sizeLine_eq]
          omega
        · by_cases hlt : j < rs.length
          · rw [List.getElem?_append_left hlt] at hj
            exact ((hrs j r z hj hzj).ext eH).upd hD3
          · rw [List.getElem?_append_right (by omega)] at hj
            have e0 : j - rs.length = 0 := by
              have : j - rs.length < 1 := (List.getElem?_eq_some_iff.mp hj).1
              omega
            rw [e0] at hj
            cases hj
            have ej : j = i := by omega
            subst ej
            cases hln.symm.trans hzj
            refine RowA.upd ⟨qs, hR3, ?_⟩ hD3
            have el : (rowT L (cs, on)).take (ps.map V.ref).length = rowT L (cs, on) := List.take_of_length_le (by rw [List.length_map, h3, rowT, List.length_map] <;> exact Nat.le_refl _)
            rw [el] at hq3
            exact hq3
        · rw [upd_same, tabV_next hn (by rw [hrl]; exact hkv)]
    · obtain ⟨e, rs, hrl, hrs, hD'⟩ := q
      refine ⟨D, _, rfl, hD', True.intro, fun od2 => k D _ rs (fresh_back e1 hD) (e1.trans (Ex.mut e hD)) hrl ⟨od2, upd_same⟩ fun j r z hj hzj => (hrs j r z hj hzj).upd hD'⟩
/-! ### the sum of what is picked -/
def spPicked (K : PySem.W.Frag) : Sp := fun vs H Q _ => ∃ (t pk : Addr) (tab kp : List (Key × V)) (ys : List Tri), vs = [.ref t, .ref pk] ∧ Fz H t tab ∧ H pk = some (.dK kp) ∧ tab.length = ys.length ∧ tab.length ≤ 1000 ∧
  (∀ (i : Nat) (k : Key) (v : V) (y : Tri), tab[i]? = some (k, v) → ys[i]? = some y → ∃ (r : Addr) (xs : List Tri) (j : Nat), v = .ref r ∧ RowA K H r xs ∧ valV kp k = some (.int (j : Int)) ∧ xs[j]? = some y) ∧ RetU (tri (sum3 ys)) H Q
abbrev sPicked : Stmt := top 45
theorem scPicked : FnScope ["table", "picks", "number", "rows"] ["table", "picks"] (defScope sPicked) := ⟨rfl, rfl, rfl, by decide +kernel, rfl, by decide +kernel, by decide +kernel⟩
theorem ok_picked (F : FnP K "picked_light" sPicked f fd) (O_summed : Own P w K mg base 1 "summed" ["lights"] (spSummedL K)) : FnOk P w K mg base CX0 2 f fd ["table", "picks"] (spPicked K) := by
  have nd := scPicked.nd
  refine F.ok scPicked (fun vs H Q E h => ?_) (fun cdv A outer s H vs Q E hr h => ⟨_, PSs.nox (pss_one (ps_ret (Hs.pe_own O_summed hr (by first | decide | omega) (by rfl) (pa_cons (pe_lc (own := [("number", 2), ("rows", 3)]) (g := gTup K 2 (gCons (gName 2) (gCons (gName 3) gNil))) rfl nd (pi_items (pv 0)) (blkOk_by (N := ["table", "picks", "number", "rows"]) (sc := defScope (Hs.top 45)) (by decide +kernel)) (fun _ _ _ _ _ => (pg_tup rfl (pgs_cons (pg_name (i := 2) nd rfl (Or.inl rfl)) (pgs_cons (pg_name (i := 3) nd rfl (Or.inl rfl)) pgs_nil)))) (fun _ _ _ _ _ => pts_nil) (fun _ _ _ _ _ => (pe_ix (r := rIxL K) ix_list (pv 3) (pe_dget (Hs.un1 hr) (pv 1) (pv 2) (fun _ _ => rfl)) (fun _ _ => rfl)))) pa_nil)))), ?_⟩)
  · obtain ⟨t, pk, tab, kp, ys, rfl, _⟩ := h
    rfl
  · obtain ⟨t, pk, tab, kp, ys, rfl, ⟨od, ht⟩, hp, hl, hz, hr1, k⟩ := h
    refine ⟨_, rfl, t, od, tab, rfl, ht, fun D hD => ?_⟩
    refine lc_it walk_items (fun i H' => Ex H H' ∧ ∃ qs : List Addr, H' D = some (.lst (qs.map V.ref)) ∧ Lights K H' qs (ys.take i)) ⟨Ex.new hD, [], upd_same, rfl, (fun j p x hj => by cases hj)⟩ (fun i H' _ q => q.1 _ _ ht) (fun i x H' H'' hi q y => ?_) (fun H' q => ?_)
    · obtain ⟨e, qs, hD', hqs⟩ := q
      obtain ⟨T, x1, x2, rfl, hT, rfl, f1, f2⟩ := y
      obtain ⟨⟨key, v⟩, hkv⟩ : ∃ z, tab[i]? = some z := ⟨_, List.getElem?_eq_getElem hi⟩
      obtain ⟨y, hy⟩ : ∃ z, ys[i]? = some z := ⟨_, List.getElem?_eq_getElem (by rw [← hl]; exact hi)⟩
      dsimp only at f1 f2
      rw [hkv] at f1 f2
      cases f1
      cases f2
      have eT := Ex.new (o := .tup [kV key, v]) hT
      have eH := e.trans eT
      obtain ⟨r, xs, j, rfl, hR, hvk, hxj⟩ := hr1 i key v y hkv hy
      obtain ⟨ps, hr2, hps⟩ := hR.ext eH
      obtain ⟨pj, hpj⟩ : ∃ z, ps[j]? = some z := ⟨_, List.getElem?_eq_getElem (by rw [hps.1]; exact (List.getElem?_eq_some_iff.mp hxj).1)⟩
      have hat : atI (ps.map V.ref) (j : Int) = some (.ref pj) := atI_nat (by rw [List.getElem?_map, hpj] <;> rfl)
      have hg : DGet (upd H' T (.tup [kV key, .ref r])) pk (kV key) (some (.int (j : Int))) := .inl ⟨kp, key, .inl (eH _ _ hp), rfl, hvk.symm⟩
      have hDT := eT _ _ hD'
      refine ⟨T, _, rfl, st_of upd_same, rfl, _, _, rfl, _, _, rfl, rfl, rfl, ?_⟩
      simp only [tYes, if_true]
      refine ⟨_, rfl, _, rfl, _, rfl, pk, _, rfl, hg, r, _, (j : Int), _, rfl, rfl, sq_of hr2, hat, _, hDT, ?_, Ex.mut eH hD, qs ++ [pj], by rw [upd_same, List.map_append] <;> rfl, ?_⟩
      · rw [List.length_map, hqs.1, List.length_take, sizeLine_eq]
        omega
      · rw [List.take_add_one, hy]
        exact ((hqs.ext eT).upd hDT (by intro _ z; cases z) (by intro _ _ z; cases z)).snoc (sqt_upd (hps.2 j pj y hpj hxj) hDT (by intro _ z; cases z) (by intro _ _ z; cases z))
    · obtain ⟨e, qs, hD', hqs⟩ := q
      rw [hl, List.take_length] at hqs
      exact ⟨D, qs, ys, rfl, sq_of hD', hqs, fun q H2 hq e2 h2 => k q H2 (fresh_back e hq) (e.trans e2) h2⟩
end
end Hs
namespace Hs
open PySem PySem.Spec PyProof.Rows L2 Evl
/-! ### the light at a place -/
/-- the light of each lamp, under the row r -/
def litBy (L : Chc → Tri) (ls : List (List Chc × Bool)) (r : List Int) : List Tri := (List.range ls.length).map fun i => (rowT L (ls.getD i ([], false))).getD (pval (nOn ls) r i).toNat (0, 0, 0)
theorem nOn_take {ls : List (List Chc × Bool)} (i : Nat) : (nOn ls).take i = nOn (ls.take i) := (List.map_take ..).symm
theorem nOn_at {ls : List (List Chc × Bool)} {i : Nat} {z : List Chc × Bool} (h : ls[i]? = some z) : (nOn ls)[i]? = some (z.1.length, z.2) := by
  unfold nOn
  rw [List.getElem?_map, h] <;> rfl
theorem pval_ok {ls : List (List Chc × Bool)} {r : List Int} {i : Nat} {z : List Chc × Bool} (g : GoodR (cnts (nOn ls)) r) (h1 : ∀ z ∈ ls, 1 ≤ z.1.length) (h : ls[i]? = some z) : 0 ≤ pval (nOn ls) r i ∧ (pval (nOn ls) r i).toNat < z.1.length := by
  have hn := nOn_at h
  have hd : (nOn ls).getD i (0, false) = (z.1.length, z.2) := by rw [List.getD_eq_getElem?_getD, hn] <;> rfl
  have hz := h1 z (List.mem_of_getElem? h)
  unfold pval
  rw [hd]
  by_cases hc : 1 < z.1.length
  · rw [if_pos hc]
    have e1 : cnts (nOn ls) = cnts ((nOn ls).take (i + 1)) ++ cnts ((nOn ls).drop (i + 1)) := by rw [← cnts_app, List.take_append_drop]
    rw [cnts_next hn, if_pos hc] at e1
    have hat : (cnts (nOn ls))[(cnts ((nOn ls).take i)).length]? = some (z.1.length : Int) := by
      rw [e1, List.append_assoc, List.getElem?_append_right (Nat.le_refl _), Nat.sub_self] <;> rfl
    have hlt := (List.getElem?_eq_some_iff.mp hat).1
    have hr : r[(cnts ((nOn ls).take i)).length]? = some (r[(cnts ((nOn ls).take i)).length]'(by rw [g.1]; exact hlt)) := List.getElem?_eq_getElem (by rw [g.1]; exact hlt)
    have hb := g.2 _ _ _ hlt hat hr
    rw [List.getD_eq_getElem?_getD, hr]
    dsimp only [Option.getD_some]
    omega
  · rw [if_neg hc]
    exact ⟨Int.le_refl _, hz⟩
theorem good_nil : GoodR [] [] := ⟨rfl, fun i c d hi => absurd hi (Nat.not_lt_zero _)⟩
/-- what stands and gives light at the house h: state s, its floor fl, its lamps at b -/
structure LitA (K : PySem.W.Frag) (C : Addr) (H : Hp) (h dx s fl lk cm b : Addr) (fs : List (Str × V)) (kvs lo cs ts : List (Key × V)) (ls : List (List Chc × Bool)) : Prop where
  h : H h = some (.ins C dx fs)
  f : fs.lookup ("state" : Str) = some (.ref s)
  s : StA K H s fl lk cm kvs lo cs
  v : valV kvs (.inr "lamp") = some (.ref b)
  b : Fz H b ts
  l : LampsG H ts ls
  n : (ts.map (·.1)).Nodup
  z : ts.length ≤ 1000
  c : ∀ z ∈ ls, z.1.length ≤ 1000
  o : ∀ z ∈ ls, 1 ≤ z.1.length
  t : Cnt (cnts (nOn ls))
  g : ∀ z ∈ ls, ∀ c ∈ z.1, ChB c
theorem LitA.ext {K : PySem.W.Frag} {C : Addr} {H H' : Hp} {h dx s fl lk cm b : Addr} {fs : List (Str × V)} {kvs lo cs ts : List (Key × V)} {ls : List (List Chc × Bool)} (a : LitA K C H h dx s fl lk cm b fs kvs lo cs ts ls) (e : Ex H H') : LitA K C H' h dx s fl lk cm b fs kvs lo cs ts ls := ⟨e _ _ a.h, a.f, a.s.ext e, a.v, a.b.ext e, a.l.ext e, a.n, a.z, a.c, a.o, a.t, a.g⟩
/-- the figures of the floor fl let L through to the place (x, y) -/
def Figs (K : PySem.W.Frag) (spF spB : Sp) (fl : Addr) (x y : Int) (L : Chc → Tri) (H : Hp) : Prop := ∀ (H0 : Hp) (p : Addr), Ex H H0 → H0 p = some (.tup [.int x, .int y]) → ∀ Q' : VK, (∀ a H1, Ex H0 H1 → BrBy K spB p L a H1 → Q' (.ref a) H1) → spF [.ref fl] H0 Q' E0
theorem Figs.ext {K : PySem.W.Frag} {spF spB : Sp} {fl : Addr} {x y : Int} {L : Chc → Tri} {H H' : Hp} (h : Figs K spF spB fl x y L H) (e : Ex H H') : Figs K spF spB fl x y L H' := fun H0 p e0 hp Q' k => h H0 p (e.trans e0) hp Q' k
def spLightM (K : PySem.W.Frag) (C cP cU cB : Addr) (spF spB : Sp) : Sp := fun vs H Q E => ∃ (h dx s fl lk cm b : Addr) (fs : List (Str × V)) (kvs lo cs ts : List (Key × V)) (ls : List (List Chc × Bool)) (x y : Int) (v : V) (L : Chc → Tri), vs = [.ref h, .int x, .int y, v] ∧ LitA K C H h dx s fl lk cm b fs kvs lo cs ts ls ∧ (¬ InFar [x, y] → Flies cP "badplace" H E) ∧
  (InFar [x, y] → Figs K spF spB fl x y L H ∧ ((v = .non ∧ (cnts (nOn ls) ≠ [] → Flies cU "unknown" H E) ∧ (cnts (nOn ls) = [] → RetU (tri (sum3 (litBy L ls []))) H Q)) ∨
    ∃ (sb : Addr) (r : List Int), v = .ref sb ∧ SqT K H sb (iv r) ∧ (¬ GoodR (cnts (nOn ls)) r → Flies cB "badsetting" H E) ∧ (GoodR (cnts (nOn ls)) r → RetU (tri (sum3 (litBy L ls r))) H Q)))
theorem val_at : ∀ {kvs : List (Key × V)} {i : Nat} {k : Key} {v : V}, (kvs.map (·.1)).Nodup → kvs[i]? = some (k, v) → valV kvs k = some v
  | [], _, _, _, _, h => by cases h
  | p :: r, 0, _, _, _, h => by
    cases h
    exact valV_pos rfl
  | p :: r, i + 1, k, v, hn, h => by
    rw [List.map_cons, List.nodup_cons] at hn
    have hr : r[i]? = some (k, v) := h
    have hm : k ∈ r.map (·.1) := List.mem_map.mpr ⟨_, List.mem_of_getElem? hr, rfl⟩
    rw [valV_neg (fun e => hn.1 (e ▸ hm))]
    exact val_at hn.2 hr
theorem valV_pk {ts : List (Key × V)} {ls : List (Nat × Bool)} {r : List Int} (hn : (ts.map (·.1)).Nodup) : ∀ (m : Nat), m ≤ ts.length → ∀ (i : Nat), i < m → ∀ (k : Key) (v : V), ts[i]? = some (k, v) → valV (pkV ts ls r m) k = some (.int (pval ls r i)) := by
  intro m hm i hi k v hk
  have hat : (pkV ts ls r m)[i]? = some (k, .int (pval ls r i)) := by
    unfold pkV
    rw [List.getElem?_map, List.getElem?_range hi]
    show some ((ts.getD i (.inl 0, .non)).1, V.int (pval ls r i)) = _
    rw [List.getD_eq_getElem?_getD, hk] <;> rfl
  have hkeys : (pkV ts ls r m).map (·.1) = (ts.map (·.1)).take m := by
    unfold pkV
    rw [List.map_map]
    refine List.ext_getElem (by simp; omega) fun j h1 h2 => ?_
    simp at h1
    simp [List.getD_eq_getElem?_getD, List.getElem?_eq_getElem (show j < ts.length by omega)]
  have hnd : ((pkV ts ls r m).map (·.1)).Nodup := by
    rw [hkeys]
    exact hn.sublist (List.take_sublist _ _)
  exact val_at hnd hat
section
variable {P : Program} {w : World} {K : PySem.W.Frag} {mg : Str → Option Value} {base : Heap} {f C cP cU cB : Addr} {fd : FuncData} {spF spB : Sp} {kws : List (Str × V)}
abbrev sLightM : Stmt := (inClass (Hs.top 102) 28)
theorem scLightM : FnScope ["self", "across", "up", "setting", "floor", "checked"] ["self", "across", "up", "setting"] (defScope sLightM) := ⟨rfl, rfl, rfl, by decide +kernel, rfl, by decide +kernel, by decide +kernel⟩
theorem ok_lightM (F : FunD K "light" "House.light" (defArgs sLightM) (defBody sLightM) (defScope sLightM) [] kws f fd) (hC : HouseC K C) (O_check_place : OwnX P w K mg base 3 "check_place" ["place"] [] (spPlace K cP)) (O_checked_setting : OwnX P w K mg base 4 "checked_setting" ["lamps", "setting"] [] (spChecked K cU cB)) (O_choice_lights : Own P w K mg base 8 "choice_lights" ["floor", "point"] (spChoice K spF spB)) (O_picked_light : Own P w K mg base 2 "picked_light" ["table", "picks"] (spPicked K)) (O_picks_of : Own P w K mg base 1 "picks_of" ["lamps", "setting"] (spPicks K)) :
    FnOk P w K mg base (L2.CX P w) 9 f fd ["self", "across", "up", "setting"] (spLightM K C cP cU cB spF spB) := by
  have nd := scLightM.nd
  refine F.ok scLightM (fun vs H Q E h => ?_) (fun cdv A outer s H vs Q E hr h => ⟨_, (pss_cons (ps_expr (Hs.pe_ownT O_check_place hr (by decide) (by rfl) (passes_call (takes_of rfl rfl rfl rfl) (fun _ _ _ _ h => h)) (pa_cons (pe_tup (pa_cons (pv 1) (pa_cons (pv 2) pa_nil))) pa_nil)))
  (pss_cons (ps_set (i := 4) nd rfl (.inl rfl) (pe_ix (r := rIxT K) ix_tup (pe_fld (pv 0) (by rfl)) pe_int (fun _ _ => rfl)))
  (Evl.pss_cut (ps_set (i := 5) nd rfl (.inl rfl) (Hs.pe_ownT O_checked_setting hr (by decide) (by rfl) (passes_call (takes_of rfl rfl rfl rfl) (fun _ _ _ _ h => h)) (pa_cons (pe_dget (Hs.un1 hr) (pv 4) pe_str (fun _ _ => rfl)) (pa_cons (pv 3) pa_nil))))
  (pss_one (ps_ret (Hs.pe_own O_picked_light hr (by first | decide | omega) (by rfl) (pa_cons (Hs.pe_own O_choice_lights hr (by first | decide | omega) (by rfl) (pa_cons (pv 4) (pa_cons (pe_tup (pa_cons (pv 1) (pa_cons (pv 2) pa_nil))) pa_nil))) (pa_cons (Hs.pe_own O_picks_of hr (by first | decide | omega) (by rfl) (pa_cons (pe_dget (Hs.un1 hr) (pv 4) pe_str (fun _ _ => rfl)) (pa_cons (pv 5) pa_nil))) pa_nil)))))))), ?_⟩)
  · obtain ⟨h, dx, s, fl, lk, cm, b, fs, kvs, lo, cs, ts, ls, x, y, v, L, rfl, _⟩ := h
    rfl
  · obtain ⟨h, dx, s, fl, lk, cm, b, fs, kvs, lo, cs, ts, ls, x, y, v, L, rfl, A0, kP, k⟩ := h
    refine ⟨_, rfl, _, rfl, sz_of (by simp), fun t1 ht1 => ⟨t1, [x, y], rfl, st_of upd_same, by simp, by simp, fun h => (kP h).ext (Ex.new ht1), fun hF H1 e1 => ?_⟩⟩
    have e01 := (Ex.new (o := .tup [V.int x, .int y]) ht1).trans e1
    have A1 := A0.ext e01
    obtain ⟨kB, k⟩ := k hF
    refine ⟨_, rfl, h, C, dx, fs, _, rfl, A1.h, hC.c, hC.s, A1.f, s, _, 0, _, rfl, rfl, A1.s.t, rfl, ?_⟩
    dsimp only [gName, List.set]
    have gL : ∀ {H' : Hp}, Ex H1 H' → DGet H' fl (.str "lamp") (some (.ref b)) := fun e => by
      have z := (A1.ext e).s.f.get (k := .inr "lamp")
      rw [A1.v] at z
      exact z
    have hcn : ∀ z ∈ nOn ls, z.1 ≤ 1000 := fun z hz => by
      obtain ⟨y, hy, rfl⟩ := List.mem_map.mp hz
      exact A0.c y hy
    refine q_cut (M := fun σ' H' => ∃ (sb : Addr) (r : List Int), σ' = [some (.ref h), some (.int x), some (.int y), some v, some (.ref fl), some (.ref sb)] ∧ Ex H1 H' ∧ SqT K H' sb (iv r) ∧ GoodR (cnts (nOn ls)) r ∧ RetU (tri (sum3 (litBy L ls r))) H' Q) ?_ ?_
    · refine ⟨_, rfl, fl, _, rfl, gL (Ex.refl H1), _, rfl, b, v, ts, nOn ls, rfl, A1.b, A1.l.a, A1.z, hcn, A1.t, ?_⟩
      rcases k with ⟨rfl, kU, k⟩ | ⟨sb, r, rfl, hsb, kE, k⟩
      · refine .inl ⟨rfl, fun h => (kU h).ext e01, fun h p H2 hp e2 h2 => ?_⟩
        exact ⟨p, [], rfl, e2, st_of h2, by rw [h]; exact good_nil, fun q H3 hq e3 h3 => k h q H3 (fresh_back (e01.trans e2) hq) ((e01.trans e2).trans e3) h3⟩
      · refine .inr ⟨sb, r, rfl, ex_t e01 hsb, fun h => (kE h).ext e01, fun h H2 e2 => ?_⟩
        exact ⟨sb, r, rfl, e2, ex_t (e01.trans e2) hsb, h, fun q H3 hq e3 h3 => k h q H3 (fresh_back (e01.trans e2) hq) ((e01.trans e2).trans e3) h3⟩
    · rintro σ' H2 ⟨sb, r, rfl, e2, hsb, hg, kk⟩
      have A2 := A1.ext e2
      refine ⟨_, rfl, _, rfl, _, rfl, sz_of (by simp), fun t2 ht2 => ?_⟩
      have x2 := Ex.new (o := .tup [V.int x, .int y]) ht2
      have A3 := A2.ext x2
      refine ⟨fl, t2, b, kvs, ts, ls, L, rfl, A3.s.f, A3.v, A3.b, A3.l, A3.n, A3.z, A3.c, A3.g, fun Q' q' => kB _ t2 ((e01.trans e2).trans x2) upd_same Q' q', fun D H3 rs hD e3 hrl hFz hrows => ?_⟩
      have e23 := x2.trans e3
      have A4 := A3.ext e3
      refine ⟨_, rfl, fl, _, rfl, gL (e2.trans e23), _, rfl, b, sb, ts, nOn ls, r, rfl, A4.b, A4.l.a, A4.n, A4.z, ex_t e23 hsb, hg.1, fun pk H4 hpk e4 h4 => ?_⟩
      have e24 := e23.trans e4
      have htl : (tabV ts rs).length = ls.length := by rw [tabV, List.length_map, List.length_range, hrl, A0.l.1]
      refine ⟨D, pk, tabV ts rs, _, litBy L ls r, rfl, hFz.ext e4, h4, by rw [htl, litBy, List.length_map, List.length_range], by rw [htl, ← A0.l.1]; exact A0.z, fun i key u yy hi hy => ?_, fun q H5 hq e5 h5 => kk q H5 (fresh_back e24 hq) (e24.trans e5) h5⟩
      have hil : i < ls.length := by
        rw [← htl]
        exact (List.getElem?_eq_some_iff.mp hi).1
      have hit : i < ts.length := by rw [A0.l.1]; exact hil
      have hir : i < rs.length := by rw [hrl]; exact hit
      have htab : (tabV ts rs)[i]? = some (ts[i].1, V.ref rs[i]) := by
        unfold tabV
        rw [List.getElem?_map, List.getElem?_range hir]
        show some ((ts.getD i (.inl 0, .non)).1, V.ref (rs.getD i 0)) = _
        rw [List.getD_eq_getElem?_getD, List.getElem?_eq_getElem hit, List.getD_eq_getElem?_getD, List.getElem?_eq_getElem hir] <;> rfl
      cases htab.symm.trans hi
      obtain ⟨p0, p1⟩ := pval_ok hg A0.o (List.getElem?_eq_getElem hil)
      have hyy : yy = (rowT L ls[i]).getD (pval (nOn ls) r i).toNat (0, 0, 0) := by
        have z : (litBy L ls r)[i]? = some ((rowT L (ls.getD i ([], false))).getD (pval (nOn ls) r i).toNat (0, 0, 0)) := by
          unfold litBy
          rw [List.getElem?_map, List.getElem?_range hil] <;> rfl
        rw [List.getD_eq_getElem?_getD (l := ls), List.getElem?_eq_getElem hil] at z
        cases z.symm.trans hy
        rfl
      have hlr : (rowT L ls[i]).length = ls[i].1.length := by rw [rowT, List.length_map]
      refine ⟨rs[i], rowT L ls[i], (pval (nOn ls) r i).toNat, rfl, (hrows i rs[i] ls[i] (List.getElem?_eq_getElem hir) (List.getElem?_eq_getElem hil)).ext e4, ?_, ?_⟩
      · rw [Int.toNat_of_nonneg p0]
        exact valV_pk A0.n ts.length (Nat.le_refl _) i hit _ ts[i].2 (List.getElem?_eq_getElem hit)
      · rw [hyy, List.getD_eq_getElem?_getD, List.getElem?_eq_getElem (by rw [hlr]; exact p1)] <;> rfl
end
end Hs
namespace Hs
open PySem PySem.Spec PyProof.Rows L2 Evl
theorem dp_pt {K : PySem.W.Frag} {H : Hp} {p : Addr} {x : Pt} (h : SqT K H p (prV x)) : Dp K H (.ref p) (PySem.W.Datum.toD x) := .tup h (.cons (.int _) (.cons (.int _) .nil))
theorem ev_eqPt {K : PySem.W.Frag} {σ : L2.St} {H : Hp} {tx ty : TE} {p q : Addr} {x y : Pt} (hx : Ev tx σ H (.ref p)) (hy : Ev ty σ H (.ref q)) (px : SqT K H p (prV x)) (qy : SqT K H q (prV y)) : Ev (tOp (rEqD K) tx ty) σ H (.bl (decide (x = y))) := fun H1 e Q k =>
  hx H1 e _ fun H2 e2 => hy H2 (e.trans e2) _ fun H3 e3 => ⟨_, _, dp_pt (ex_t ((e.trans e2).trans e3) px), dp_pt (ex_t ((e.trans e2).trans e3) qy), rfl, rfl, by rw [PySem.W.Datum.eqv]; exact k H3 (e2.trans e3)⟩
def spDoPost (K : PySem.W.Frag) (cP cB cF : Addr) : Sp := fun vs H Q E => ∃ (s fl lk cm b : Addr) (kvs ls cs ts : List (Key × V)) (n x y u z : Int), vs = [.ref s, .int x, .int y, .int u, .int z] ∧ StA K H s fl lk cm kvs ls cs ∧ valV kvs (.inr "post") = some (.ref b) ∧ Fz H b ts ∧ valV cs (.inr "post") = some (.int n) ∧
  kvs.length ≤ 10000 ∧ ts.length ≤ 10000 ∧ cs.length ≤ 10000 ∧ (¬ InFar [x, y, u, z] → Flies cP "badplace" H E) ∧ (InFar [x, y, u, z] → ¬ (x ≤ u ∧ y ≤ z) → Flies cB "badblock" H E) ∧ (InFar [x, y, u, z] → x ≤ u ∧ y ≤ z → 12 ≤ ts.length → Flies cF "full" H E) ∧
  (InFar [x, y, u, z] → x ≤ u ∧ y ≤ z → ts.length < 12 → ∀ (th : Addr) (H1 : Hp), Ex H H1 → H1 th = some (.tup (iv [x, y, u, z])) → RetP kvs ts ls cs lk "post" n (.ref th) K H1 Q)
/-- the pane from (x, y) to (u, z) at th -/
def PaneA (H : Hp) (th : Addr) (x y u z : Int) (sf : Str) : Prop := ∃ pc a b, H th = some (.tup [.ref pc, .str sf]) ∧ H pc = some (.tup [.ref a, .ref b]) ∧ H a = some (.tup (iv [x, y])) ∧ H b = some (.tup (iv [u, z]))
def spDoPane (K : PySem.W.Frag) (cP cI cS cF : Addr) : Sp := fun vs H Q E => ∃ (s fl lk cm b : Addr) (kvs ls cs ts : List (Key × V)) (n x y u z : Int) (sf : Str), vs = [.ref s, .int x, .int y, .int u, .int z, .str sf] ∧ StA K H s fl lk cm kvs ls cs ∧ valV kvs (.inr "pane") = some (.ref b) ∧ Fz H b ts ∧ valV cs (.inr "pane") = some (.int n) ∧
  kvs.length ≤ 10000 ∧ ts.length ≤ 10000 ∧ cs.length ≤ 10000 ∧ (¬ (InFar [x, y] ∧ InFar [u, z]) → Flies cP "badplace" H E) ∧ (InFar [x, y] ∧ InFar [u, z] → (x = u ∧ y = z) → Flies cI "badpiece" H E) ∧ (InFar [x, y] ∧ InFar [u, z] → ¬ (x = u ∧ y = z) → good sf = false → Flies cS "badsift" H E) ∧ (InFar [x, y] ∧ InFar [u, z] → ¬ (x = u ∧ y = z) → good sf = true → 12 ≤ ts.length → Flies cF "full" H E) ∧
  (InFar [x, y] ∧ InFar [u, z] → ¬ (x = u ∧ y = z) → good sf = true → ts.length < 12 → ∀ (th : Addr) (H1 : Hp), Ex H H1 → PaneA H1 th x y u z sf → RetP kvs ts ls cs lk "pane" n (.ref th) K H1 Q)
section
variable {P : Program} {w : World} {K : PySem.W.Frag} {mg : Str → Option Value} {base : Heap} {f cP cB cF cI cS : Addr} {fd : FuncData}
abbrev sDoPost : Stmt := top 82
theorem scDoPost : FnScope ["state", "left", "low", "right", "high"] ["state", "left", "low", "right", "high"] (defScope sDoPost) := ⟨rfl, rfl, rfl, by decide +kernel, rfl, by decide +kernel, by decide +kernel⟩
theorem ok_doPost (F : FnP K "do_post" sDoPost f fd) (O_check_place : OwnX P w K mg base 3 "check_place" ["place"] [] (spPlace K cP)) (Er_BadBlock : ErrF P w K mg base 1 "BadBlock" cB "badblock") (O_put : OwnX P w K mg base 4 "put" ["state", "sort", "thing"] [] (spPut K cF)) : FnOk P w K mg base (L2.CX P w) 5 f fd ["state", "left", "low", "right", "high"] (spDoPost K cP cB cF) := by
  have nd := scDoPost.nd
  refine F.ok scDoPost (fun vs H Q E h => ?_) (fun cdv A outer s H vs Q E hr h => ⟨_, (pss_cons (ps_expr (Hs.pe_ownT O_check_place hr (by decide) (by rfl) (passes_call (takes_of rfl rfl rfl rfl) (fun _ _ _ _ h => h)) (pa_cons (pe_tup (pa_cons (pv 1) (pa_cons (pv 2) (pa_cons (pv 3) (pa_cons (pv 4) pa_nil))))) pa_nil)))
  (pss_cons (ps_if (PW.pt (pw_or (pt_cmpR op_gt (pv 1) (pv 3) (nomark _)) (pw_or1 (pt_cmpR op_gt (pv 2) (pv 4) (nomark _))))) (pss_one (ps_raise rfl (takes_of rfl rfl rfl rfl) (Hs.pmk_err Er_BadBlock hr (by decide) (by rfl)))) pss_nil)
  (pss_one (ps_ret (Hs.pe_ownT O_put hr (by decide) (by rfl) (passes_call (takes_of rfl rfl rfl rfl) (fun _ _ _ _ h => h)) (pa_cons (pv 0) (pa_cons pe_str (pa_cons (pe_tup (pa_cons (pv 1) (pa_cons (pv 2) (pa_cons (pv 3) (pa_cons (pv 4) pa_nil))))) pa_nil)))))))), ?_⟩)
  · obtain ⟨s, fl, lk, cm, b, kvs, ls, cs, ts, n, x, y, u, z, rfl, _⟩ := h
    rfl
  · obtain ⟨s, fl, lk, cm, b, kvs, ls, cs, ts, n, x, y, u, z, rfl, S, hv, hb, hn, l1, l2, l3, kP, kB, kF, k⟩ := h
    refine ⟨_, rfl, _, rfl, _, rfl, _, rfl, sz_of (by simp), fun t1 ht1 => ⟨t1, [x, y, u, z], rfl, st_of upd_same, by simp, by simp, fun h => (kP h).ext (Ex.new ht1), fun hF H1 e1 => ?_⟩⟩
    have e01 := (Ex.new (o := .tup [V.int x, .int y, .int u, .int z]) ht1).trans e1
    dsimp only
    refine q_when (et_or (a := decide (x > u)) (b := decide (y > z)) (et_test (ev_op (ev_var (v := .int x) rfl) (ev_var (v := .int u) rfl) rv_I0)) fun _ => et_test (ev_op (ev_var (v := .int y) rfl) (ev_var (v := .int z) rfl) rv_I0)) (fun ht H2 e2 => ?_) (fun ht H2 e2 => ?_)
    · refine (kB hF fun g => ?_).ext (e01.trans e2)
      simp at ht
      omega
    · have hg : x ≤ u ∧ y ≤ z := by
        simp at ht
        omega
      have e02 := e01.trans e2
      refine ⟨_, rfl, _, rfl, _, rfl, _, rfl, _, rfl, sz_of (by simp), fun th hth => ?_⟩
      have x3 := Ex.new (o := .tup (iv [x, y, u, z])) hth
      have e03 := e02.trans x3
      exact ⟨s, fl, lk, cm, b, kvs, ls, cs, ts, "post", n, .ref th, rfl, S.ext e03, hv, hb.ext e03, hn, l1, l2, l3, fun h => (kF hF hg h).ext e03, fun h => k hF hg h th _ e03 upd_same⟩
abbrev sDoPane : Stmt := top 83
theorem scDoPane : FnScope ["state", "across", "up", "other_across", "other_up", "sift", "piece"] ["state", "across", "up", "other_across", "other_up", "sift"] (defScope sDoPane) := ⟨rfl, rfl, rfl, by decide +kernel, rfl, by decide +kernel, by decide +kernel⟩
theorem ok_doPane (F : FnP K "do_pane" sDoPane f fd) (O_check_place : OwnX P w K mg base 3 "check_place" ["place"] [] (spPlace K cP)) (Er_BadPiece : ErrF P w K mg base 1 "BadPiece" cI "badpiece") (O_check_sift : OwnX P w K mg base 3 "check_sift" ["sift"] [] (spCheck cS)) (O_put : OwnX P w K mg base 4 "put" ["state", "sort", "thing"] [] (spPut K cF)) : FnOk P w K mg base (L2.CX P w) 5 f fd ["state", "across", "up", "other_across", "other_up", "sift"] (spDoPane K cP cI cS cF) := by
  have nd := scDoPane.nd
  refine F.ok scDoPane (fun vs H Q E h => ?_) (fun cdv A outer s H vs Q E hr h => ⟨_, (pss_cons (ps_set (i := 6) nd rfl (.inl rfl) (pe_tup (pa_cons (pe_tup (pa_cons (pv 1) (pa_cons (pv 2) pa_nil))) (pa_cons (pe_tup (pa_cons (pv 3) (pa_cons (pv 4) pa_nil))) pa_nil))))
  (pss_cons (ps_expr (Hs.pe_ownT O_check_place hr (by decide) (by rfl) (passes_call (takes_of rfl rfl rfl rfl) (fun _ _ _ _ h => h)) (pa_cons (pe_ix (r := rIxT K) ix_tup (pv 6) pe_int (fun _ _ => rfl)) pa_nil)))
  (pss_cons (ps_expr (Hs.pe_ownT O_check_place hr (by decide) (by rfl) (passes_call (takes_of rfl rfl rfl rfl) (fun _ _ _ _ h => h)) (pa_cons (pe_ix (r := rIxT K) ix_tup (pv 6) pe_int (fun _ _ => rfl)) pa_nil)))
  (pss_cons (ps_if (pt_cmpR (op_eqD hr.units) (pe_ix (r := rIxT K) ix_tup (pv 6) pe_int (fun _ _ => rfl)) (pe_ix (r := rIxT K) ix_tup (pv 6) pe_int (fun _ _ => rfl)) (nomark _)) (pss_one (ps_raise rfl (takes_of rfl rfl rfl rfl) (Hs.pmk_err Er_BadPiece hr (by decide) (by rfl)))) pss_nil)
  (pss_cons (ps_expr (Hs.pe_ownT O_check_sift hr (by decide) (by rfl) (passes_call (takes_of rfl rfl rfl rfl) (fun _ _ _ _ h => h)) (pa_cons (pv 5) pa_nil)))
  (pss_one (ps_ret (Hs.pe_ownT O_put hr (by decide) (by rfl) (passes_call (takes_of rfl rfl rfl rfl) (fun _ _ _ _ h => h)) (pa_cons (pv 0) (pa_cons pe_str (pa_cons (pe_tup (pa_cons (pv 6) (pa_cons (pv 5) pa_nil))) pa_nil))))))))))), ?_⟩)
  · obtain ⟨s, fl, lk, cm, b, kvs, ls, cs, ts, n, x, y, u, z, sf, rfl, _⟩ := h
    rfl
  · obtain ⟨s, fl, lk, cm, b, kvs, ls, cs, ts, n, x, y, u, z, sf, rfl, S, hv, hb, hn, l1, l2, l3, kP, kI, kS, kF, k⟩ := h
    refine ⟨_, rfl, _, rfl, sz_of (by simp), fun t1 ht1 => ⟨_, rfl, _, rfl, sz_of (by simp), fun t2 ht2 => ⟨sz_of (by simp), fun pc hpc => ?_⟩⟩⟩
    have x3 := Ex.new (o := .tup [V.ref t1, .ref t2]) hpc
    have x2 := (Ex.new (o := .tup (iv [u, z])) ht2).trans x3
    have x1 := (Ex.new (o := .tup (iv [x, y])) ht1).trans x2
    have h1 := x2 _ _ (upd_same (H := H) (a := t1) (o := .tup (iv [x, y])))
    have h2 := x3 _ _ (upd_same (a := t2) (o := .tup (iv [u, z])))
    dsimp only [gName, List.set]
    have at0 : atI [V.ref t1, .ref t2] 0 = some (.ref t1) := rfl
    have at1 : atI [V.ref t1, .ref t2] 1 = some (.ref t2) := rfl
    refine ⟨_, rfl, pc, _, 0, _, rfl, rfl, st_of upd_same, at0, t1, [x, y], rfl, st_of h1, by simp, by simp, fun h => (kP fun g => h g.1).ext x1, fun hF1 H1 e1 => ?_⟩
    have e01 := x1.trans e1
    refine ⟨_, rfl, pc, _, 1, _, rfl, rfl, st_of (e1 _ _ upd_same), at1, t2, [u, z], rfl, st_of (e1 _ _ h2), by simp, by simp, fun h => (kP fun g => h g.2).ext e01, fun hF2 H2 e2 => ?_⟩
    have e12 := e1.trans e2
    have e02 := x1.trans e12
    have hF : InFar [x, y] ∧ InFar [u, z] := ⟨hF1, hF2⟩
    have hp2 := e12 _ _ (upd_same (a := pc) (o := .tup [V.ref t1, .ref t2]))
    dsimp only
    refine q_when (b := decide (((x, y) : Pt) = (u, z))) (et_test (ev_eqPt (x := (x, y)) (y := (u, z)) (ev_ixt (by rfl) (st_of hp2) at0) (ev_ixt (by rfl) (st_of hp2) at1) (st_of (e12 _ _ h1)) (st_of (e12 _ _ h2)))) (fun ht H3 e3 => ?_) (fun ht H3 e3 => ?_)
    · have ez := of_decide_eq_true ht
      exact (kI hF ⟨congrArg Prod.fst ez, congrArg Prod.snd ez⟩).ext (e02.trans e3)
    · have hne : ¬ (x = u ∧ y = z) := fun g => of_decide_eq_false ht (by rw [g.1, g.2])
      have e03 := e02.trans e3
      refine ⟨_, rfl, sf, rfl, fun hg => (kS hF hne hg).ext e03, fun hg H4 e4 => ?_⟩
      have e04 := e03.trans e4
      have e14 := e12.trans (e3.trans e4)
      refine ⟨_, rfl, _, rfl, _, rfl, sz_of (by simp), fun th hth => ?_⟩
      have x5 := Ex.new (o := .tup [V.ref pc, .str sf]) hth
      have e05 := e04.trans x5
      exact ⟨s, fl, lk, cm, b, kvs, ls, cs, ts, "pane", n, .ref th, rfl, S.ext e05, hv, hb.ext e05, hn, l1, l2, l3, fun h => (kF hF hne hg h).ext e05, fun h => k hF hne hg h th _ e05 ⟨pc, t1, t2, upd_same, (e14.trans x5) _ _ upd_same, (e14.trans x5) _ _ h1, (e14.trans x5) _ _ h2⟩⟩
end
end Hs
namespace Hs
open PySem PySem.Spec PyProof.Rows L2 Evl
/-! ### a house with lamps of one choice each, and nothing else -/
def fldsH (s p q : Addr) : List (Str × V) := [("state", .ref s), ("past", .ref p), ("ahead", .ref q), ("trying", .bl false)]
def comV (n : Int) : List (Key × V) := [(.inr "lamp", .int n), (.inr "post", .int 1), (.inr "pane", .int 1), (.inr "look", .int 1)]
/-- tuples and what is frozen stay -/
structure Kp (H H' : Hp) : Prop where
  t : ∀ a xs, H a = some (.tup xs) → H' a = some (.tup xs)
  f : ∀ a od o, H a = some (.frz od o) → H' a = some (.frz od o)
theorem Kp.of {H H' : Hp} (e : Ex H H') : Kp H H' := ⟨fun _ _ h => e _ _ h, fun _ _ _ h => e _ _ h⟩
theorem Kp.ofN {H H' : Hp} (e : LamX.ExtN H H') : Kp H H' := ⟨fun _ _ h => e _ _ h (fun _ z => by cases z), fun _ _ _ h => e _ _ h (fun _ z => by cases z)⟩
theorem Kp.but {H H' : Hp} {b : Addr} {xs : List V} (hb : H b = some (.lst xs)) (e : But H H' b) : Kp H H' := ⟨fun _ _ h => e _ _ h (ne_of h hb (by intro z; cases z)), fun _ _ _ h => e _ _ h (ne_of h hb (by intro z; cases z))⟩
theorem Kp.upd {H : Hp} {b : Addr} {xs : List V} {o : HO} (hb : H b = some (.lst xs)) : Kp H (L2.upd H b o) := Kp.but hb (But.upd But.refl)
theorem Kp.fz {H H' : Hp} {a : Addr} {kvs : List (Key × V)} (e : Kp H H') (h : Fz H a kvs) : Fz H' a kvs := let ⟨od, h⟩ := h; ⟨od, e.f _ _ _ h⟩
theorem Kp.sqt {K : PySem.W.Frag} {H H' : Hp} {a : Addr} {xs : List V} (e : Kp H H') (h : SqT K H a xs) : SqT K H' a xs := by
  rcases h with (h | ⟨od, h⟩) | h
  · exact .inl (.inl (e.t _ _ h))
  · exact .inl (.inr ⟨od, e.f _ _ _ h⟩)
  · exact .inr h
theorem Kp.tup {H H' : Hp} {a : Addr} {xs : List V} (e : Kp H H') (h : H a = some (.tup xs)) : H' a = some (.tup xs) := e.t _ _ h
theorem Kp.lamps {H H' : Hp} {ts : List (Key × V)} {ls : List (List Chc × Bool)} (e : Kp H H') (h : LampsG H ts ls) : LampsG H' ts ls := h.keep fun _ _ z => e.tup z
theorem Kp.sta {K : PySem.W.Frag} {H H' : Hp} {s fl lk cm : Addr} {kvs ls cs : List (Key × V)} (e : Kp H H') (h : StA K H s fl lk cm kvs ls cs) : StA K H' s fl lk cm kvs ls cs := ⟨e.sqt h.t, e.fz h.f, e.fz h.l, e.fz h.c⟩
def KeysUp (ts : List (Key × V)) : Prop := ts.map (·.1) = (List.range ts.length).map fun i : Nat => (Sum.inl ((i : Int) + 1) : Key)
theorem KeysUp.nodup {ts : List (Key × V)} (h : KeysUp ts) : (ts.map (·.1)).Nodup := by
  rw [h]
  refine List.Pairwise.map _ (fun a b hab e => hab ?_) List.nodup_range
  have e2 : (a : Int) + 1 = (b : Int) + 1 := Sum.inl.inj e
  omega
theorem KeysUp.at {ts : List (Key × V)} (h : KeysUp ts) {i : Nat} (hi : i < ts.length) : ts[i].1 = Sum.inl ((i : Int) + 1) := by
  have e : (ts.map (·.1))[i]? = ((List.range ts.length).map fun i : Nat => (Sum.inl ((i : Int) + 1) : Key))[i]? := by rw [← h]
  rw [List.getElem?_map, List.getElem?_map, List.getElem?_eq_getElem hi, List.getElem?_range hi] at e
  exact Option.some.inj e
theorem KeysUp.new {ts : List (Key × V)} (h : KeysUp ts) {v : V} : putK ts (.inl ((ts.length : Int) + 1)) v = ts ++ [(.inl ((ts.length : Int) + 1), v)] := by
  refine putK_new fun p hp e => ?_
  have hm : p.1 ∈ ts.map (·.1) := List.mem_map.mpr ⟨p, hp, rfl⟩
  rw [h, e] at hm
  obtain ⟨i, hi, e2⟩ := List.mem_map.mp hm
  have hi := List.mem_range.mp hi
  have e3 : (i : Int) + 1 = (ts.length : Int) + 1 := Sum.inl.inj e2
  omega
theorem KeysUp.snoc {ts : List (Key × V)} (h : KeysUp ts) {v : V} : KeysUp (ts ++ [(.inl ((ts.length : Int) + 1), v)]) := by
  unfold KeysUp
  rw [List.map_append, h, List.length_append, List.length_singleton, List.range_succ, List.map_append] <;> rfl
theorem putK_at : ∀ {ts : List (Key × V)} {i : Nat} {k : Key} {v v' : V}, (ts.map (·.1)).Nodup → ts[i]? = some (k, v) → putK ts k v' = ts.set i (k, v') := fun {ts i k v v'} hn h => by
  have hi : i < ts.length := (List.getElem?_eq_some_iff.mp h).1
  have ha : (ts.any fun kv => decide (kv.1 = k)) = true := List.any_eq_true.mpr ⟨_, List.mem_of_getElem? h, decide_eq_true rfl⟩
  unfold putK
  rw [if_pos ha]
  refine List.ext_getElem? fun j => ?_
  rw [List.getElem?_map, List.getElem?_set]
  by_cases e : i = j
  · subst e
    rw [if_pos rfl, if_pos hi, h]
    show some (if k = k then (k, v') else (k, v)) = _
    rw [if_pos rfl]
  · rw [if_neg e]
    cases hj : ts[j]? with
    | none => rfl
    | some z =>
      show some (if z.1 = k then (z.1, v') else z) = some z
      rw [if_neg]
      intro ez
      have e2 : (ts.map (·.1))[i]? = (ts.map (·.1))[j]? := by
        rw [List.getElem?_map, List.getElem?_map, h, hj]
        show some k = some z.1
        rw [ez]
      exact e ((List.getElem?_inj (by rw [List.length_map]; exact hi) hn).mp e2)
theorem KeysUp.set {ts : List (Key × V)} (h : KeysUp ts) {i : Nat} {v : V} (hi : i < ts.length) : KeysUp (ts.set i (.inl ((i : Int) + 1), v)) := by
  unfold KeysUp
  rw [List.length_set, ← h, List.map_set]
  refine List.ext_getElem? fun j => ?_
  rw [List.getElem?_set]
  by_cases e : i = j
  · subst e
    rw [if_pos rfl, if_pos (by rw [List.length_map]; exact hi), List.getElem?_map, List.getElem?_eq_getElem hi]
    show some (Sum.inl ((i : Int) + 1)) = some ts[i].1
    rw [h.at hi]
  · rw [if_neg e]
theorem LampsG.snoc {H : Hp} {ts : List (Key × V)} {ls : List (List Chc × Bool)} {k : Key} {th : Addr} {z : List Chc × Bool} (h : LampsG H ts ls) (l : LampG H th z.1 z.2) : LampsG H (ts ++ [(k, .ref th)]) (ls ++ [z]) := by
  refine ⟨by rw [List.length_append, List.length_append, h.1] <;> rfl, fun j k' v z' hp hr => ?_⟩
  by_cases hj : j < ts.length
  · rw [List.getElem?_append_left hj] at hp
    rw [List.getElem?_append_left (by rw [← h.1]; exact hj)] at hr
    exact h.2 j k' v z' hp hr
  · rw [List.getElem?_append_right (by omega)] at hp
    rw [List.getElem?_append_right (by rw [← h.1]; omega), ← h.1] at hr
    have e0 : j - ts.length = 0 := by
      have : j - ts.length < 1 := (List.getElem?_eq_some_iff.mp hp).1
      omega
    rw [e0] at hp hr
    cases hp
    cases hr
    exact ⟨th, rfl, l⟩
theorem LampsG.set {H : Hp} {ts : List (Key × V)} {ls : List (List Chc × Bool)} {k : Key} {th : Addr} {z : List Chc × Bool} {i : Nat} (h : LampsG H ts ls) (l : LampG H th z.1 z.2) : LampsG H (ts.set i (k, .ref th)) (ls.set i z) := by
  refine ⟨by rw [List.length_set, List.length_set, h.1], fun j k' v z' hp hr => ?_⟩
  rw [List.getElem?_set] at hp hr
  by_cases e : i = j
  · rw [if_pos e] at hp hr
    by_cases hi : i < ts.length
    · rw [if_pos hi] at hp
      rw [if_pos (by rw [← h.1]; exact hi)] at hr
      cases hp
      cases hr
      exact ⟨th, rfl, l⟩
    · rw [if_neg hi] at hp
      cases hp
  · rw [if_neg e] at hp hr
    exact h.2 j k' v z' hp hr
theorem LampA.g {H : Hp} {th : Addr} {on : Bool} {x y r g u : Int} (h : LampA H th on [x, y, r, g, u]) : LampG H th [(x, y, (r, g, u))] on := by
  obtain ⟨ch, c1, h1, h2, h3⟩ := h.ex
  refine ⟨ch, [c1], h1, h2, rfl, fun i p c hp hc => ?_⟩
  match i, hp, hc with
  | 0, hp, hc =>
    cases hp
    cases hc
    exact h3
  | i + 1, hp, hc => cases hp
theorem LampG.a1 {H : Hp} {th : Addr} {on : Bool} {c : Chc} (h : LampG H th [c] on) : LampA H th on [c.1, c.2.1, c.2.2.1, c.2.2.2.1, c.2.2.2.2] := by
  obtain ⟨ch, ps, h1, h2, h3, h4⟩ := h.ex
  obtain ⟨p, rfl⟩ : ∃ p, ps = [p] := match ps, h3 with
    | [p], _ => ⟨p, rfl⟩
  exact ⟨ch, p, h1, h2, h4 0 p c rfl rfl⟩
/-- the house at h, its past at p, what is ahead at q; at most m deeds -/
structure HsA (K : PySem.W.Frag) (C : Addr) (H : Hp) (h dx p q : Addr) (m : Nat) (ls : List (List Chc × Bool)) : Prop where
  ex : ∃ (s fl lk cm b q2 q3 : Addr) (ts : List (Key × V)) (ps : List V), H h = some (.ins C dx (fldsH s p q)) ∧ H p = some (.lst ps) ∧ ps.length ≤ m ∧ H q = some (.lst []) ∧ p ≠ q ∧ StA K H s fl lk cm (bareV b q2 q3) [] (comV ((ls.length : Int) + 1)) ∧ Fz H b ts ∧ Fz H q2 [] ∧ Fz H q3 [] ∧ LampsG H ts ls ∧ KeysUp ts
  one : ∀ z ∈ ls, z.1.length = 1
  few : ls.length ≤ 1000
theorem HsA.keep {K : PySem.W.Frag} {C : Addr} {H H' : Hp} {h dx p q : Addr} {m m' : Nat} {ls : List (List Chc × Bool)} (a : HsA K C H h dx p q m ls) (e : Kp H H') (eh : ∀ o, H h = some o → H' h = some o) (ep : ∀ o, H p = some o → H' p = some o) (eq : ∀ o, H q = some o → H' q = some o) (hm : m ≤ m') : HsA K C H' h dx p q m' ls := by
  obtain ⟨s, fl, lk, cm, b, q2, q3, ts, ps, h1, h2, h3, h4, h5, h6, h7, h8, h9, h10, h11⟩ := a.ex
  exact ⟨⟨s, fl, lk, cm, b, q2, q3, ts, ps, eh _ h1, ep _ h2, by omega, eq _ h4, h5, e.sta h6, e.fz h7, e.fz h8, e.fz h9, e.lamps h10, h11⟩, a.one, a.few⟩
theorem HsA.ext {K : PySem.W.Frag} {C : Addr} {H H' : Hp} {h dx p q : Addr} {m : Nat} {ls : List (List Chc × Bool)} (a : HsA K C H h dx p q m ls) (e : Ex H H') : HsA K C H' h dx p q m ls := a.keep (Kp.of e) (fun _ z => e _ _ z) (fun _ z => e _ _ z) (fun _ z => e _ _ z) (Nat.le_refl _)
theorem HsA.ins {K : PySem.W.Frag} {C : Addr} {H : Hp} {h dx p q : Addr} {m : Nat} {ls : List (List Chc × Bool)} (a : HsA K C H h dx p q m ls) : ∃ fs, H h = some (.ins C dx fs) ∧ fs.lookup ("lamp" : Str) = none ∧ fs.lookup ("switch" : Str) = none ∧ fs.lookup ("light" : Str) = none := by
  obtain ⟨s, fl, lk, cm, b, q2, q3, ts, ps, h1, _⟩ := a.ex
  exact ⟨_, h1, rfl, rfl, rfl⟩
theorem HsA.lsts {K : PySem.W.Frag} {C : Addr} {H : Hp} {h dx p q : Addr} {m : Nat} {ls : List (List Chc × Bool)} (a : HsA K C H h dx p q m ls) : (∃ xs, H p = some (.lst xs)) ∧ ∃ xs, H q = some (.lst xs) := by
  obtain ⟨s, fl, lk, cm, b, q2, q3, ts, ps, _, h2, _, h4, _⟩ := a.ex
  exact ⟨⟨_, h2⟩, _, h4⟩
/-- all but the house, its past and what is ahead -/
def Kept (H H' : Hp) (h p q : Addr) : Prop := ∀ a o, H a = some o → a ≠ h → a ≠ p → a ≠ q → H' a = some o
/-- a house made -/
theorem HsA.made {K : PySem.W.Frag} {C : Addr} {H : Hp} {h dx s p q : Addr} (hh : H h = some (.ins C dx [("state", .ref s), ("past", .ref p), ("ahead", .ref q), ("trying", .bl false)])) (hp : H p = some (.lst [])) (hq : H q = some (.lst [])) (hn : p ≠ q) (f : FirstA K H s) : HsA K C H h dx p q 0 [] := by
  obtain ⟨fl, lk, cm, q1, q2, q3, h1, h2, h3, h4, h5, h6, h7⟩ := f.ex
  exact ⟨⟨s, fl, lk, cm, q1, q2, q3, [], [], hh, hp, Nat.le_refl _, hq, hn, ⟨st_of h1, h2, h3, h4⟩, h5, h6, h7, ⟨rfl, fun i k v z hz => by cases hz⟩, rfl⟩, (fun z hz => by cases hz), Nat.zero_le _⟩
/-- what a deed of the house leaves -/
theorem deed_kept {H0 H4 : Hp} {h p q t : Addr} {o1 o2 o3 o4 : HO} (e : Ex H0 H4) (ht : H4 t = none) : Kept H0 (upd (upd (upd (upd H4 t o1) p o2) q o3) h o4) h p q := fun a o ha h1 h2 h3 => by
  rw [upd_ne h1, upd_ne h3, upd_ne h2, upd_ne (ne_of_none (e _ _ ha) ht)]
  exact e _ _ ha
theorem Kept.kp {H H' : Hp} {h p q C dx : Addr} {fs : List (Str × V)} {ps qs : List V} (k : Kept H H' h p q) (hh : H h = some (.ins C dx fs)) (hp : H p = some (.lst ps)) (hq : H q = some (.lst qs)) : Kp H H' :=
  ⟨fun _ _ ha => k _ _ ha (ne_of ha hh (by intro z; cases z)) (ne_of ha hp (by intro z; cases z)) (ne_of ha hq (by intro z; cases z)), fun _ _ _ ha => k _ _ ha (ne_of ha hh (by intro z; cases z)) (ne_of ha hp (by intro z; cases z)) (ne_of ha hq (by intro z; cases z))⟩
theorem deed_kp {H4 : Hp} {h p q t C dx : Addr} {fs : List (Str × V)} {ps qs : List V} {o1 o2 o3 o4 : HO} (hh : H4 h = some (.ins C dx fs)) (hp : H4 p = some (.lst ps)) (hq : H4 q = some (.lst qs)) (ht : H4 t = none) : Kp H4 (upd (upd (upd (upd H4 t o1) p o2) q o3) h o4) := (deed_kept (Ex.refl H4) ht).kp hh hp hq
theorem tabs_kept {T : List (Addr × Str)} {H H' : Hp} {h p q C dx : Addr} {fs : List (Str × V)} {ps qs : List V} (t : LamX.Tabs T H) (k : Kept H H' h p q) (hh : H h = some (.ins C dx fs)) (hp : H p = some (.lst ps)) (hq : H q = some (.lst qs)) : LamX.Tabs T H' := fun x hx => by
  obtain ⟨us, h1, h2, h3⟩ := t x hx
  refine ⟨us, k _ _ h1 (ne_of h1 hh (by intro z; cases z)) (ne_of h1 hp (by intro z; cases z)) (ne_of h1 hq (by intro z; cases z)), h2, fun pos cv hc => ?_⟩
  obtain ⟨c, e1, e2⟩ := h3 pos cv hc
  exact ⟨c, e1, k _ _ e2 (ne_of e2 hh (by intro z; unfold LamX.CodeO at z; cases z)) (ne_of e2 hp (by intro z; unfold LamX.CodeO at z; cases z)) (ne_of e2 hq (by intro z; unfold LamX.CodeO at z; cases z))⟩
/-- what the table of doers says of a word -/
structure DoerA (K : PySem.W.Frag) (dF dD : Addr) (S : Addr → Option Sp) (wd fm : Str) (sp : Sp) : Prop where
  ex : ∃ (tk : Tok) (f : Addr), PySem.W.nsIn K dF wd = some (some (.str fm tk)) ∧ PySem.W.nsIn K dD wd = some (some (.ref f)) ∧ S f = some sp
def spLampH (K : PySem.W.Frag) (C : Addr) : Sp := fun vs H Q _ => ∃ (h lt dx p q : Addr) (m : Nat) (ls : List (List Chc × Bool)) (x y r g u : Int), vs = [.ref h, .int x, .int y, .ref lt] ∧ SqT K H lt [.int r, .int g, .int u] ∧ HsA K C H h dx p q m ls ∧ InFar [x, y] ∧ InLit 1000000 [r, g, u] ∧ ls.length < 12 ∧ m ≤ 500 ∧
  ∀ H', Kept H H' h p q → HsA K C H' h dx p q (m + 1) (ls ++ [([(x, y, (r, g, u))], true)]) → Q (.int ((ls.length : Int) + 1)) H'
theorem lamp_h {K : PySem.W.Frag} {C dF dD cP cL cF : Addr} {S : Addr → Option Sp} (D : DoerA K dF dD S "lamp" "nnnnn" (spDoLamp K cP cL cF)) (vs : List V) (H : Hp) (Q : VK) (E : XK) (hs : spLampH K C vs H Q E) : spLampM K C (spDo C (spApplied K dF dD S)) vs H Q E := by
  obtain ⟨h, lt, dx, p, q, m, ls, x, y, r, g, u, rfl, hlt, a, hF, hL, hl, hm, k⟩ := hs
  obtain ⟨tk, f, d1, d2, d3⟩ := D.ex
  obtain ⟨s, fl, lk, cm, b, q2, q3, ts, ps, h1, h2, h3, h4, h5, h6, h7, h8, h9, h10, h11⟩ := a.ex
  refine ⟨h, lt, dx, fldsH s p q, x, y, [.int r, .int g, .int u], rfl, hlt, (show 3 ≤ 100 by decide), h1, rfl, fun d hd => ?_⟩
  have xd := Ex.new (o := .tup [V.str "lamp", .int x, .int y, .int r, .int g, .int u]) hd
  refine ⟨h, d, dx, s, p, q, fldsH s p q, ps, [], rfl, xd _ _ h1, rfl, rfl, rfl, xd _ _ h2, xd _ _ h4, h5, by omega, (show 4 < 1000 by decide), fun Q' kk => ?_⟩
  refine ⟨s, d, f, "lamp", "nnnnn", tk, [.int x, .int y, .int r, .int g, .int u], _, rfl, st_of upd_same, d1, rfl, (show 5 ≤ 100 by decide), d2, d3, fun H2 e2 => ?_⟩
  have e02 := xd.trans e2
  have tl : ts.length = ls.length := h10.1
  refine ⟨s, fl, lk, cm, b, bareV b q2 q3, [], comV ((ls.length : Int) + 1), ts, (ls.length : Int) + 1, x, y, r, g, u, rfl, h6.ext e02, rfl, h7.ext e02, rfl, (show 3 ≤ 10000 by decide), by omega, (show 4 ≤ 10000 by decide), fun z => absurd hF z, fun _ z => absurd hL z, fun _ _ z => by omega, fun _ _ _ th H3 e3 hth r' s' fl' q' cm' H4 e4 hr' hSt hq' => ?_⟩
  have e04 := (e02.trans e3).trans e4
  refine kk r' (.ref s') _ H4 hr' (e04 _ _ h1) (e04 _ _ h2) (e04 _ _ h4) fun t ht => ?_
  have kp := deed_kp (h := h) (p := p) (q := q) (o1 := .tup [V.ref d, .ref s]) (o2 := .lst (ps ++ [.ref t])) (o3 := .lst []) (o4 := .ins C dx (putF "state" (.ref s') (fldsH s p q))) (e04 _ _ h1) (e04 _ _ h2) (e04 _ _ h4) ht
  have nph : p ≠ h := fun z => by
    rw [z, h1] at h2
    cases h2
  have nqh : q ≠ h := fun z => by
    rw [z, h1] at h4
    cases h4
  refine k _ (deed_kept e04 ht) ⟨⟨s', fl', lk, cm', q', q2, q3, _, ps ++ [.ref t], upd_same, ?_, ?_, ?_, h5, ?_, kp.fz hq', kp.fz (h8.ext e04), kp.fz (h9.ext e04), ?_, ?_⟩, fun z hz => ?_, ?_⟩
  · rw [upd_ne nph, upd_ne h5, upd_same]
  · rw [List.length_append]
    exact Nat.succ_le_succ h3
  · rw [upd_ne nqh, upd_same]
  · rw [List.length_append]
    exact kp.sta hSt
  · rw [← tl, h11.new]
    exact (kp.lamps (h10.ext e04)).snoc (hth.g.keep fun _ _ z => kp.tup (e4 _ _ z))
  · rw [← tl, h11.new]
    exact h11.snoc
  · rcases List.mem_append.mp hz with z1 | z1
    · exact a.one z z1
    · rw [List.mem_singleton.mp z1] <;> rfl
  · rw [List.length_append]
    exact Nat.le_trans (Nat.succ_le_succ (Nat.le_of_lt hl)) (by decide)
def spSwitchH (K : PySem.W.Frag) (C : Addr) : Sp := fun vs H Q _ => ∃ (h dx p q : Addr) (m i : Nat) (ls : List (List Chc × Bool)) (c : Chc) (on : Bool), vs = [.ref h, .int ((i : Int) + 1)] ∧ HsA K C H h dx p q m ls ∧ ls[i]? = some ([c], on) ∧ m ≤ 500 ∧ ∀ H', Kept H H' h p q → HsA K C H' h dx p q (m + 1) (ls.set i ([c], !on)) → Q .non H'
theorem switch_h {K : PySem.W.Frag} {C dF dD : Addr} {S : Addr → Option Sp} (D : DoerA K dF dD S "switch" "n" (spSwitch K)) (vs : List V) (H : Hp) (Q : VK) (E : XK) (hs : spSwitchH K C vs H Q E) : spSwitchM C (spDo C (spApplied K dF dD S)) vs H Q E := by
  obtain ⟨h, dx, p, q, m, i, ls, c, on, rfl, a, hi, hm, k⟩ := hs
  obtain ⟨tk, f, d1, d2, d3⟩ := D.ex
  obtain ⟨s, fl, lk, cm, b, q2, q3, ts, ps, h1, h2, h3, h4, h5, h6, h7, h8, h9, h10, h11⟩ := a.ex
  refine ⟨h, dx, fldsH s p q, (i : Int) + 1, rfl, h1, rfl, fun d hd => ?_⟩
  have xd := Ex.new (o := .tup [V.str "switch", .int ((i : Int) + 1)]) hd
  refine ⟨h, d, dx, s, p, q, fldsH s p q, ps, [], rfl, xd _ _ h1, rfl, rfl, rfl, xd _ _ h2, xd _ _ h4, h5, by omega, (show 4 < 1000 by decide), fun Q' kk => ?_⟩
  refine ⟨s, d, f, "switch", "n", tk, [.int ((i : Int) + 1)], _, rfl, st_of upd_same, d1, rfl, (show 1 ≤ 100 by decide), d2, d3, fun H2 e2 => ?_⟩
  have e02 := xd.trans e2
  have hil : i < ls.length := (List.getElem?_eq_some_iff.mp hi).1
  have hit : i < ts.length := by rw [h10.1]; exact hil
  have htk : ts[i]? = some (.inl ((i : Int) + 1), ts[i].2) := by rw [List.getElem?_eq_getElem hit, ← h11.at hit]
  obtain ⟨th, eth, lg⟩ := (h10.ext e02).2 i _ _ _ htk hi
  rw [eth] at htk
  have fw := a.few
  refine ⟨s, fl, lk, cm, b, th, bareV b q2 q3, [], comV ((ls.length : Int) + 1), ts, (i : Int) + 1, on, _, rfl, h6.ext e02, rfl, h7.ext e02, val_at h11.nodup htk, lg.a1, (show 3 ≤ 10000 by decide), by rw [h10.1]; omega, fun r' s' fl' q' th' H4 e4 hth hr' hSt hq' => ?_⟩
  have e04 := e02.trans e4
  refine kk r' (.ref s') _ H4 hr' (e04 _ _ h1) (e04 _ _ h2) (e04 _ _ h4) fun t ht => ?_
  have kp := deed_kp (h := h) (p := p) (q := q) (o1 := .tup [V.ref d, .ref s]) (o2 := .lst (ps ++ [.ref t])) (o3 := .lst []) (o4 := .ins C dx (putF "state" (.ref s') (fldsH s p q))) (e04 _ _ h1) (e04 _ _ h2) (e04 _ _ h4) ht
  have nph : p ≠ h := fun z => by
    rw [z, h1] at h2
    cases h2
  have nqh : q ≠ h := fun z => by
    rw [z, h1] at h4
    cases h4
  refine k _ (deed_kept e04 ht) ⟨⟨s', fl', lk, cm, q', q2, q3, _, ps ++ [.ref t], upd_same, ?_, ?_, ?_, h5, ?_, kp.fz hq', kp.fz (h8.ext e04), kp.fz (h9.ext e04), ?_, ?_⟩, fun z hz => ?_, ?_⟩
  · rw [upd_ne nph, upd_ne h5, upd_same]
  · rw [List.length_append]
    exact Nat.succ_le_succ h3
  · rw [upd_ne nqh, upd_same]
  · rw [List.length_set]
    exact kp.sta hSt
  · rw [putK_at h11.nodup htk]
    exact (kp.lamps (h10.ext e04)).set (hth.g.keep fun _ _ z => kp.tup z)
  · rw [putK_at h11.nodup htk]
    exact h11.set hit
  · rcases List.mem_or_eq_of_mem_set hz with z1 | z1
    · exact a.one z z1
    · rw [z1] <;> rfl
  · rw [List.length_set]
    exact fw
end Hs
namespace Hs
open PySem PySem.Spec PyProof.Rows L2 Evl
/-! ### a house with lamps of one choice each, posts and panes -/
def comB (a b c : Int) : List (Key × V) := [(.inr "lamp", .int a), (.inr "post", .int b), (.inr "pane", .int c), (.inr "look", .int 1)]
theorem Kp.figv {K : PySem.W.Frag} {n : Nat} {H H' : Hp} {v : V} {F : Fig} (e : Kp H H') (h : FigV K n H v F) : FigV K n H' v F := by
  cases F with
  | post B =>
    obtain ⟨p, rfl, hp⟩ := h
    exact ⟨p, rfl, e.sqt hp.1, hp.2⟩
  | pane a b z =>
    obtain ⟨p, q, rfl, hp, c, d, g1, g2, g3⟩ := h
    exact ⟨p, q, rfl, e.sqt hp, c, d, e.sqt g1, ⟨e.sqt g2.1, g2.2⟩, ⟨e.sqt g3.1, g3.2⟩⟩
theorem Kp.things {K : PySem.W.Frag} {n : Nat} {H H' : Hp} {ts : List (Key × V)} {Fs : List Fig} (e : Kp H H') (h : ThingsA K n H ts Fs) : ThingsA K n H' ts Fs := ⟨h.1, fun i k v F h1 h2 => let ⟨a, b⟩ := h.2 i k v F h1 h2; ⟨a, e.figv b⟩⟩
theorem ThingsA.snoc {K : PySem.W.Frag} {n : Nat} {H : Hp} {ts : List (Key × V)} {Fs : List Fig} {num : Int} {v : V} {F : Fig} (h : ThingsA K n H ts Fs) (l : FigV K n H v F) : ThingsA K n H (ts ++ [(.inl num, v)]) (Fs ++ [F]) := by
  refine ⟨by rw [List.length_append, List.length_append, h.1] <;> rfl, fun j k' v' F' hp hr => ?_⟩
  by_cases hj : j < ts.length
  · rw [List.getElem?_append_left hj] at hp
    rw [List.getElem?_append_left (by rw [← h.1]; exact hj)] at hr
    exact h.2 j k' v' F' hp hr
  · rw [List.getElem?_append_right (by omega)] at hp
    rw [List.getElem?_append_right (by rw [← h.1]; omega), ← h.1] at hr
    have e0 : j - ts.length = 0 := by
      have : j - ts.length < 1 := (List.getElem?_eq_some_iff.mp hp).1
      omega
    rw [e0] at hp hr
    cases hp
    cases hr
    exact ⟨⟨num, rfl⟩, l⟩
structure HsB (K : PySem.W.Frag) (C : Addr) (n : Nat) (H : Hp) (h dx p q : Addr) (m : Nat) (ls : List (List Chc × Bool)) (F2 F3 : List Fig) : Prop where
  ex : ∃ (s fl lk cm b q2 q3 : Addr) (ts t2 t3 : List (Key × V)) (ps : List V), H h = some (.ins C dx (fldsH s p q)) ∧ H p = some (.lst ps) ∧ ps.length ≤ m ∧ H q = some (.lst []) ∧ p ≠ q ∧ StA K H s fl lk cm (bareV b q2 q3) [] (comB ((ls.length : Int) + 1) ((F2.length : Int) + 1) ((F3.length : Int) + 1)) ∧ Fz H b ts ∧ Fz H q2 t2 ∧ Fz H q3 t3 ∧ (LampsG H ts ls ∧ KeysUp ts) ∧ (ThingsA K n H t2 F2 ∧ KeysUp t2) ∧ ThingsA K n H t3 F3 ∧ KeysUp t3
  one : ∀ z ∈ ls, z.1.length = 1
  few : ls.length ≤ 12 ∧ F2.length ≤ 12 ∧ F3.length ≤ 12
theorem HsB.keep {K : PySem.W.Frag} {C : Addr} {n : Nat} {H H' : Hp} {h dx p q : Addr} {m m' : Nat} {ls : List (List Chc × Bool)} {F2 F3 : List Fig} (a : HsB K C n H h dx p q m ls F2 F3) (e : Kp H H') (eh : ∀ o, H h = some o → H' h = some o) (ep : ∀ o, H p = some o → H' p = some o) (eq : ∀ o, H q = some o → H' q = some o) (hm : m ≤ m') : HsB K C n H' h dx p q m' ls F2 F3 := by
  obtain ⟨s, fl, lk, cm, b, q2, q3, ts, t2, t3, ps, h1, h2, h3, h4, h5, h6, h7, h8, h9, ⟨h10, h11⟩, ⟨h12, h13⟩, h14, h15⟩ := a.ex
  exact ⟨⟨s, fl, lk, cm, b, q2, q3, ts, t2, t3, ps, eh _ h1, ep _ h2, by omega, eq _ h4, h5, e.sta h6, e.fz h7, e.fz h8, e.fz h9, ⟨e.lamps h10, h11⟩, ⟨e.things h12, h13⟩, e.things h14, h15⟩, a.one, a.few⟩
theorem HsB.made {K : PySem.W.Frag} {C : Addr} {n : Nat} {H : Hp} {h dx s p q : Addr} (hh : H h = some (.ins C dx [("state", .ref s), ("past", .ref p), ("ahead", .ref q), ("trying", .bl false)])) (hp : H p = some (.lst [])) (hq : H q = some (.lst [])) (hn : p ≠ q) (f : FirstA K H s) : HsB K C n H h dx p q 0 [] [] [] := by
  obtain ⟨fl, lk, cm, q1, q2, q3, h1, h2, h3, h4, h5, h6, h7⟩ := f.ex
  exact ⟨⟨s, fl, lk, cm, q1, q2, q3, [], [], [], [], hh, hp, Nat.le_refl _, hq, hn, ⟨st_of h1, h2, h3, h4⟩, h5, h6, h7, ⟨⟨rfl, fun i k v z hz => by cases hz⟩, rfl⟩, ⟨⟨rfl, fun i k v z hz => by cases hz⟩, rfl⟩, ⟨rfl, fun i k v z hz => by cases hz⟩, rfl⟩, (fun z hz => by cases hz), ⟨Nat.zero_le _, Nat.zero_le _, Nat.zero_le _⟩⟩
/-! ### deeds that put a thing -/
inductive Deed where
  | lamp (c : Chc)
  | post (B : Blk)
  | pane (a b : Pt) (z : Str)
def Deed.vals : Deed → List V
  | .lamp c => .str "lamp" :: chv c
  | .post B => .str "post" :: iv [B.left, B.low, B.right, B.high]
  | .pane a b z => [.str "pane", .int a.1, .int a.2, .int b.1, .int b.2, .str z]
def Deed.good (n : Nat) : Deed → Prop
  | .lamp c => InFar [c.1, c.2.1] ∧ InLit 1000000 [c.2.2.1, c.2.2.2.1, c.2.2.2.2]
  | .post B => InFar [B.left, B.low, B.right, B.high] ∧ (B.left ≤ B.right ∧ B.low ≤ B.high) ∧ BdB n B
  | .pane a b z => (InFar [a.1, a.2] ∧ InFar [b.1, b.2]) ∧ ¬ (a.1 = b.1 ∧ a.2 = b.2) ∧ Hs.good z = true ∧ (Bd n a.1 ∧ Bd n a.2) ∧ Bd n b.1 ∧ Bd n b.2
def Deed.lamps (ls : List (List Chc × Bool)) : Deed → List (List Chc × Bool)
  | .lamp c => ls ++ [([c], true)]
  | _ => ls
def Deed.posts (Fs : List Fig) : Deed → List Fig
  | .post B => Fs ++ [.post B]
  | _ => Fs
def Deed.panes (Fs : List Fig) : Deed → List Fig
  | .pane a b z => Fs ++ [.pane a b z]
  | _ => Fs
def Deed.room (ls : List (List Chc × Bool)) (F2 F3 : List Fig) : Deed → Prop
  | .lamp _ => ls.length < 12
  | .post _ => F2.length < 12
  | .pane _ _ _ => F3.length < 12
def spDoH (K : PySem.W.Frag) (C : Addr) (n : Nat) : Sp := fun vs H Q _ => ∃ (h d dx p q : Addr) (m : Nat) (ls : List (List Chc × Bool)) (F2 F3 : List Fig) (D : Deed), vs = [.ref h, .ref d] ∧ SqT K H d D.vals ∧ D.good n ∧ D.room ls F2 F3 ∧ HsB K C n H h dx p q m ls F2 F3 ∧ m ≤ 500 ∧
  ∀ v H', Kept H H' h p q → HsB K C n H' h dx p q (m + 1) (D.lamps ls) (D.posts F2) (D.panes F3) → Q v H'
theorem do_h {K : PySem.W.Frag} {C dF dD cP cL cF cBk cI cS : Addr} {n : Nat} {S : Addr → Option Sp} (DL : DoerA K dF dD S "lamp" "nnnnn" (spDoLamp K cP cL cF)) (DP : DoerA K dF dD S "post" "nnnn" (spDoPost K cP cBk cF)) (DN : DoerA K dF dD S "pane" "nnnns" (spDoPane K cP cI cS cF)) (vs : List V) (H : Hp) (Q : VK) (E : XK) (hs : spDoH K C n vs H Q E) : spDo C (spApplied K dF dD S) vs H Q E := by
  obtain ⟨h, d, dx, p, q, m, ls, F2, F3, D, rfl, hd, hg, hrm, a, hm, k⟩ := hs
  obtain ⟨s, fl, lk, cm, b, q2, q3, ts, t2, t3, ps, h1, h2, h3, h4, h5, h6, h7, h8, h9, ⟨h10, h11⟩, ⟨h12, h13⟩, h14, h15⟩ := a.ex
  have nph : p ≠ h := fun z => by
    rw [z, h1] at h2
    cases h2
  have nqh : q ≠ h := fun z => by
    rw [z, h1] at h4
    cases h4
  refine ⟨h, d, dx, s, p, q, fldsH s p q, ps, [], rfl, h1, rfl, rfl, rfl, h2, h4, h5, by omega, (show 4 < 1000 by decide), fun Q' kk => ?_⟩
  have few := a.few
  -- what is left to show behind the deed
  have fin : ∀ (H4 : Hp) (r' s' fl' cm' b' q2' q3' : Addr) (ts' t2' t3' : List (Key × V)) (told : V), Ex H H4 → H4 r' = some (.tup [.ref s', told]) → StA K H4 s' fl' lk cm' (bareV b' q2' q3') [] (comB (((D.lamps ls).length : Int) + 1) (((D.posts F2).length : Int) + 1) (((D.panes F3).length : Int) + 1)) → Fz H4 b' ts' → Fz H4 q2' t2' → Fz H4 q3' t3' → (LampsG H4 ts' (D.lamps ls) ∧ KeysUp ts') → (ThingsA K n H4 t2' (D.posts F2) ∧ KeysUp t2') → (ThingsA K n H4 t3' (D.panes F3) ∧ KeysUp t3') → Q' (.ref r') H4 := fun H4 r' s' fl' cm' b' q2' q3' ts' t2' t3' told e04 hr' hSt f1 f2 f3 g1 g2 g3 => by
    refine kk r' (.ref s') told H4 hr' (e04 _ _ h1) (e04 _ _ h2) (e04 _ _ h4) fun t ht => ?_
    have kp := deed_kp (h := h) (p := p) (q := q) (o1 := .tup [V.ref d, .ref s]) (o2 := .lst (ps ++ [.ref t])) (o3 := .lst []) (o4 := .ins C dx (putF "state" (.ref s') (fldsH s p q))) (e04 _ _ h1) (e04 _ _ h2) (e04 _ _ h4) ht
    refine k _ _ (deed_kept e04 ht) ⟨⟨s', fl', lk, cm', b', q2', q3', ts', t2', t3', ps ++ [.ref t], upd_same, ?_, ?_, ?_, h5, kp.sta hSt, kp.fz f1, kp.fz f2, kp.fz f3, ⟨kp.lamps g1.1, g1.2⟩, ⟨kp.things g2.1, g2.2⟩, kp.things g3.1, g3.2⟩, ?_, ?_⟩
    · rw [upd_ne nph, upd_ne h5, upd_same]
    · rw [List.length_append]
      exact Nat.succ_le_succ h3
    · rw [upd_ne nqh, upd_same]
    · cases D with
      | lamp c =>
        intro z hz
        rcases List.mem_append.mp hz with z1 | z1
        · exact a.one z z1
        · rw [List.mem_singleton.mp z1] <;> rfl
      | post B => exact a.one
      | pane x y z => exact a.one
    · cases D with
      | lamp c =>
        refine ⟨?_, few.2⟩
        show (ls ++ [([c], true)]).length ≤ 12
        rw [List.length_append]
        exact hrm
      | post B =>
        refine ⟨few.1, ?_, few.2.2⟩
        show (F2 ++ [Fig.post B]).length ≤ 12
        rw [List.length_append]
        exact hrm
      | pane x y z =>
        refine ⟨few.1, few.2.1, ?_⟩
        show (F3 ++ [Fig.pane x y z]).length ≤ 12
        rw [List.length_append]
        exact hrm
  cases D with
  | lamp c =>
    obtain ⟨tk, f, d1, d2, d3⟩ := DL.ex
    refine ⟨s, d, f, "lamp", "nnnnn", tk, chv c, _, rfl, hd, d1, rfl, (show 5 ≤ 100 by decide), d2, d3, fun H2 e2 => ?_⟩
    have tl : ts.length = ls.length := h10.1
    refine ⟨s, fl, lk, cm, b, bareV b q2 q3, [], _, ts, (ls.length : Int) + 1, c.1, c.2.1, c.2.2.1, c.2.2.2.1, c.2.2.2.2, rfl, h6.ext e2, rfl, h7.ext e2, rfl, (show 3 ≤ 10000 by decide), by omega, (show 4 ≤ 10000 by decide), fun z => absurd hg.1 z, fun _ z => absurd hg.2 z, fun _ _ z => by have hz : ls.length < 12 := hrm; omega, fun _ _ _ th H3 e3 hth r' s' fl' q' cm' H4 e4 hr' hSt hq' => ?_⟩
    have e04 := (e2.trans e3).trans e4
    refine fin H4 r' s' fl' cm' q' q2 q3 _ t2 t3 _ e04 hr' ?_ hq' (h8.ext e04) (h9.ext e04) ?_ ⟨h12.ext e04, h13⟩ ⟨h14.ext e04, h15⟩
    · show StA K H4 s' fl' lk cm' (bareV q' q2 q3) [] (comB (((ls ++ [([c], true)]).length : Int) + 1) ((F2.length : Int) + 1) ((F3.length : Int) + 1))
      rw [List.length_append]
      exact hSt
    · rw [← tl, h11.new]
      exact ⟨(h10.ext e04).snoc (hth.g.keep fun _ _ z => e4 _ _ z), h11.snoc⟩
  | post B =>
    obtain ⟨tk, f, d1, d2, d3⟩ := DP.ex
    refine ⟨s, d, f, "post", "nnnn", tk, iv [B.left, B.low, B.right, B.high], _, rfl, hd, d1, rfl, (show 4 ≤ 100 by decide), d2, d3, fun H2 e2 => ?_⟩
    have tl : t2.length = F2.length := h12.1
    refine ⟨s, fl, lk, cm, q2, bareV b q2 q3, [], _, t2, (F2.length : Int) + 1, B.left, B.low, B.right, B.high, rfl, h6.ext e2, rfl, h8.ext e2, rfl, (show 3 ≤ 10000 by decide), by omega, (show 4 ≤ 10000 by decide), fun z => absurd hg.1 z, fun _ z => absurd hg.2.1 z, fun _ _ z => by have hz : F2.length < 12 := hrm; omega, fun _ _ _ th H3 e3 hth r' s' fl' q' cm' H4 e4 hr' hSt hq' => ?_⟩
    have e04 := (e2.trans e3).trans e4
    refine fin H4 r' s' fl' cm' b q' q3 ts _ t3 _ e04 hr' ?_ (h7.ext e04) hq' (h9.ext e04) ⟨h10.ext e04, h11⟩ ?_ ⟨h14.ext e04, h15⟩
    · show StA K H4 s' fl' lk cm' (bareV b q' q3) [] (comB ((ls.length : Int) + 1) (((F2 ++ [Fig.post B]).length : Int) + 1) ((F3.length : Int) + 1))
      rw [List.length_append]
      exact hSt
    · rw [← tl, h13.new]
      exact ⟨(h12.ext e04).snoc (F := .post B) ⟨th, rfl, st_of (e4 _ _ hth), hg.2.2⟩, h13.snoc⟩
  | pane x y z =>
    obtain ⟨tk, f, d1, d2, d3⟩ := DN.ex
    refine ⟨s, d, f, "pane", "nnnns", tk, [.int x.1, .int x.2, .int y.1, .int y.2, .str z], _, rfl, hd, d1, rfl, (show 5 ≤ 100 by decide), d2, d3, fun H2 e2 => ?_⟩
    have tl : t3.length = F3.length := h14.1
    refine ⟨s, fl, lk, cm, q3, bareV b q2 q3, [], _, t3, (F3.length : Int) + 1, x.1, x.2, y.1, y.2, z, rfl, h6.ext e2, rfl, h9.ext e2, rfl, (show 3 ≤ 10000 by decide), by omega, (show 4 ≤ 10000 by decide), fun z => absurd hg.1 z, fun _ z => absurd z hg.2.1, (fun _ _ z => by rw [hg.2.2.1] at z; cases z), fun _ _ _ z => by have hz : F3.length < 12 := hrm; omega, fun _ _ _ _ th H3 e3 hth r' s' fl' q' cm' H4 e4 hr' hSt hq' => ?_⟩
    have e04 := (e2.trans e3).trans e4
    refine fin H4 r' s' fl' cm' b q2 q' ts t2 _ _ e04 hr' ?_ (h7.ext e04) (h8.ext e04) hq' ⟨h10.ext e04, h11⟩ ⟨h12.ext e04, h13⟩ ?_
    · show StA K H4 s' fl' lk cm' (bareV b q2 q') [] (comB ((ls.length : Int) + 1) ((F2.length : Int) + 1) (((F3 ++ [Fig.pane x y z]).length : Int) + 1))
      rw [List.length_append]
      exact hSt
    · rw [← tl, h15.new]
      obtain ⟨pc, c1, c2, g1, g2, g3, g4⟩ := hth
      exact ⟨(h14.ext e04).snoc (F := .pane x y z) ⟨th, pc, rfl, st_of (e4 _ _ g1), c1, c2, st_of (e4 _ _ g2), ⟨st_of (e4 _ _ g3), hg.2.2.2.1⟩, st_of (e4 _ _ g4), hg.2.2.2.2⟩, h15.snoc⟩
end Hs
namespace Hs
open PySem PySem.Spec PyProof.Rows L2 Evl
/-! ### the light of a house with posts and panes -/
noncomputable def comes (Fs : List Fig) (x : Pt) (c : Chc) : Tri := siftT c.2.2 (letAll Fs (c.1, c.2.1) x)
theorem nOn_one {ls : List (List Chc × Bool)} (h : ∀ z ∈ ls, z.1.length = 1) : cnts (nOn ls) = [] := by
  unfold cnts nOn
  rw [List.map_eq_nil_iff, List.filter_eq_nil_iff]
  intro y hy
  obtain ⟨z, hz, rfl⟩ := List.mem_map.mp hy
  simp [h z hz]
noncomputable def litF (Fs : List Fig) (x : Pt) (ls : List (List Chc × Bool)) : List Tri := ls.map fun z => if z.2 = true then comes Fs x (z.1.getD 0 (0, 0, (0, 0, 0))) else (0, 0, 0)
theorem litBy_F {ls : List (List Chc × Bool)} {Fs : List Fig} {x : Pt} (h : ∀ z ∈ ls, z.1.length = 1) : litBy (comes Fs x) ls [] = litF Fs x ls := by
  unfold litBy litF
  refine List.ext_getElem (by simp) fun i h1 h2 => ?_
  have hi : i < ls.length := by simpa using h1
  rw [List.getElem_map, List.getElem_map, List.getElem_range]
  have hz := h ls[i] (List.getElem_mem hi)
  have hd : ls.getD i ([], false) = ls[i] := by rw [List.getD_eq_getElem?_getD, List.getElem?_eq_getElem hi] <;> rfl
  have hp : pval (nOn ls) [] i = 0 := by
    unfold pval
    rw [List.getD_eq_getElem?_getD, nOn_at (List.getElem?_eq_getElem hi)]
    dsimp only [Option.getD_some]
    rw [if_neg (by omega)]
  rw [hd, hp]
  generalize ls[i] = z at hz
  obtain ⟨cs, on⟩ := z
  match cs, hz with
  | [c], _ => rfl
def spLightB (K : PySem.W.Frag) (C : Addr) : Sp := fun vs H Q _ => ∃ (h dx p q : Addr) (m : Nat) (ls : List (List Chc × Bool)) (F2 F3 : List Fig) (x y : Int), vs = [.ref h, .int x, .int y, .non] ∧ HsB K C 20 H h dx p q m ls F2 F3 ∧ InFar [x, y] ∧ (Bd 20 x ∧ Bd 20 y) ∧ (∀ z ∈ ls, ∀ c ∈ z.1, ChB c) ∧ (∀ F ∈ F2, F.sort = "post") ∧ (∀ F ∈ F3, F.sort = "pane") ∧ (∀ F ∈ F2 ++ F3, F.ok) ∧ RetU (tri (sum3 (litF (F2 ++ F3) (x, y) ls))) H Q
theorem light_b {K : PySem.W.Frag} {C cP cU cB : Addr} (vs : List V) (H : Hp) (Q : VK) (E : XK) (hs : spLightB K C vs H Q E) : spLightM K C cP cU cB (spFigsG K 20) (spBroughtG K 20) vs H Q E := by
  obtain ⟨h, dx, p, q, m, ls, F2, F3, x, y, rfl, a, hF, hb, hcb, s2, s3, hok, k⟩ := hs
  obtain ⟨s, fl, lk, cm, b, q2, q3, ts, t2, t3, ps, h1, h2, h3, h4, h5, h6, h7, h8, h9, ⟨h10, h11⟩, ⟨h12, h13⟩, h14, h15⟩ := a.ex
  have hn := nOn_one a.one
  have few := a.few
  have l2 := h12.1
  have l3 := h14.1
  refine ⟨h, dx, s, fl, lk, cm, b, fldsH s p q, bareV b q2 q3, [], _, ts, ls, x, y, .non, comes (F2 ++ F3) (x, y), rfl, ⟨h1, rfl, h6, rfl, h7, h10, h11.nodup, by rw [h10.1]; omega, fun z hz => by rw [a.one z hz]; decide, fun z hz => by rw [a.one z hz] <;> exact Nat.le_refl _, by rw [hn]; exact ⟨by decide, fun c hc => by cases hc⟩, hcb⟩, fun z => absurd hF z, fun _ => ⟨?_, ?_⟩⟩
  · intro H0 t e0 ht Q' kk
    refine ⟨fl, q2, q3, bareV b q2 q3, t2, t3, F2, F3, rfl, h6.f.ext e0, rfl, rfl, h8.ext e0, h9.ext e0, h12.ext e0, h14.ext e0, s2, s3, by omega, by omega, fun g H1 hg e1 hl => kk g H1 e1 fun H2 e2 c q' hc hq' Q2 k2 => ?_⟩
    exact ⟨g, q', t, c.1, c.2.1, c.2.2.1, c.2.2.2.1, c.2.2.2.2, (x, y), F2 ++ F3, rfl, hl.ext e2, hok, hq', hc, ⟨st_of ((e1.trans e2) _ _ ht), hb⟩, k2⟩
  · rw [hn, litBy_F a.one]
    exact .inl ⟨rfl, fun z => absurd rfl z, fun _ => k⟩
end Hs
namespace Hs
open PySem PySem.Spec PyProof.Rows L2 Evl
/-! ### one of a list, a block that is drawn -/
def spOne (K : PySem.W.Frag) : Sp := fun vs H Q _ => ∃ (b l a : Addr) (ns : List Int) (n : Nat) (xs : List V), vs = [.ref b, .ref a] ∧ BagAt H b l ns n ∧ n < 900000 ∧ H a = some (.lst xs) ∧ a ≠ b ∧ 0 < xs.length ∧ xs.length ≤ 1000 ∧
  ∀ (v : V) (H' : Hp), v ∈ xs → BagAt H' b l ns (n + 1) → But H H' b → Q v H'
def NearB (B : Blk) : Prop := (B.left.natAbs ≤ 1000000 ∧ B.low.natAbs ≤ 1000000) ∧ B.right.natAbs ≤ 1000000 ∧ B.high.natAbs ≤ 1000000
def spBlock : Sp := fun vs H Q _ => ∃ (b l g : Addr) (ns : List Int) (n : Nat) (w x y : Int), vs = [.ref b, .ref g] ∧ BagAt H b l ns n ∧ n < 800000 ∧ H g = some (.tup [.int w, .int x, .int y]) ∧ Grid w x y ∧
  ∀ (t : Addr) (B : Blk) (H' : Hp), Vb B → NearB B → H' t = some (.tup (blV B)) → BagAt H' b l ns (n + 8) → But H H' b → Q (.ref t) H'
section
variable {K : PySem.W.Frag} {σ : L2.St} {H : Hp} {tl : TE} {tu tz : TS} {D : Ends}
theorem q_forNTn {xs : List V} {j : Nat} (h : EvU tl σ H xs) (Pv : Addr → Nat → L2.St → Hp → Prop) (h0 : ∀ p H1, H p = none → Ex H H1 → H1 p = some (.tup xs) → Pv p 0 σ H1) (hl : ∀ p i σ' H', i ≤ xs.length → Pv p i σ' H' → SqT K H' p xs)
    (hs : ∀ p i x σ' H', xs[i]? = some x → Pv p i σ' H' → tu { D with nx := Pv p (i + 1), ct := Pv p (i + 1), bk := tz D } (σ'.set j (some x)) H') (hd : ∀ p σ' H', Pv p xs.length σ' H' → tz D σ' H') : tSeq (tFor (iTup K tl) (gName j) tu) tz D σ H := by
  refine h H (Ex.refl H) _ fun p H1 hp e1 h1 => ⟨p, rfl, ⟨xs, st_of h1⟩, ?_⟩
  refine for_it (D := { D with nx := tz D }) (walk_tup (K := K) (a := p) (xs := xs)) (Pv p) (h0 p H1 hp e1 h1) (fun i σ' H' hi q => hl p i σ' H' hi q) (fun i x σ' H' H'' hi q y => ?_) (hd p)
  obtain ⟨rfl, hx⟩ := y
  exact hs p i x σ' _ hx q
end
section
variable {P : Program} {w : World} {K : PySem.W.Frag} {mg : Str → Option Value} {base : Heap} {f : Addr} {fd : FuncData}
abbrev sOne : Stmt := top 106
theorem scOne : FnScope ["_law_bag_here", "_law_some"] ["_law_bag_here", "_law_some"] (defScope sOne) := ⟨rfl, rfl, rfl, by decide +kernel, rfl, by decide +kernel, by decide +kernel⟩
theorem ok_one (F : FnP K "_law_one" sOne f fd) (O__law_pull : Own P w K mg base 1 "_law_pull" ["_law_bag_here", "_law_many"] spPull) (g_len : mg "len" = none) : FnOk P w K mg base CX0 2 f fd ["_law_bag_here", "_law_some"] (spOne K) := by
  have nd := scOne.nd
  refine F.ok scOne (fun vs H Q E h => ?_) (fun cdv A outer s H vs Q E hr h => ⟨_, PSs.nox (pss_one (ps_ret (pe_ix (r := rIxL K) ix_list (pv 1) (Hs.pe_own O__law_pull hr (by first | decide | omega) (by rfl) (pa_cons (pv 0) (pa_cons (pe_callB (r := Evl.rLenS K) call_len_seq (by rfl) g_len PySem.boot_len (pa_cons (pv 1) pa_nil)) pa_nil))) (fun _ _ => rfl)))), ?_⟩)
  · obtain ⟨b, l, a, ns, n, xs, rfl, _⟩ := h
    rfl
  · obtain ⟨b, l, a, ns, n, xs, rfl, B, hn, ha, hne, h0, h1, k⟩ := h
    refine ⟨_, rfl, _, rfl, _, rfl, a, xs, rfl, .inl (sq_of ha), b, l, ns, n, _, rfl, B, by omega, by omega, by omega, fun v H1 v0 v1 B1 b1 => ?_⟩
    have hi : v.toNat < xs.length := by omega
    have hat : atI xs v = some xs[v.toNat] := by
      have e : ((v.toNat : Nat) : Int) = v := by omega
      have q := atI_nat (xs := xs) (j := v.toNat) (List.getElem?_eq_getElem hi)
      rw [e] at q
      exact q
    exact ⟨a, xs, v, _, rfl, rfl, sq_of (b1 _ _ ha hne), hat, k _ H1 (List.getElem_mem hi) B1 b1⟩
abbrev sBlock : Stmt := top 115
theorem scBlock : FnScope ["_law_bag_here", "_law_grid_here", "_law_left", "_law_low", "_law_found", "_law_begin"] ["_law_bag_here", "_law_grid_here"] (defScope sBlock) := ⟨rfl, rfl, rfl, by decide +kernel, rfl, by decide +kernel, by decide +kernel⟩
theorem ok_block (F : FnP K "_law_block" sBlock f fd) (O__law_pull : Own P w K mg base 1 "_law_pull" ["_law_bag_here", "_law_many"] spPull) (O__law_spot : Own P w K mg base 2 "_law_spot" ["_law_bag_here", "_law_grid_here"] spSpot) (g_min : mg "min" = none) : FnOk P w K mg base CX0 3 f fd ["_law_bag_here", "_law_grid_here"] spBlock := by
  have nd := scBlock.nd
  refine F.ok scBlock (fun vs H Q E h => ?_) (fun cdv A outer s H vs Q E hr h => ⟨_, PSs.nox (pss_cons (ps_asg (Hs.pe_own O__law_spot hr (by first | decide | omega) (by rfl) (pa_cons (pv 0) (pa_cons (pv 1) pa_nil))) (pg_tup rfl (pgs_cons (pg_name (i := 2) nd rfl (.inl rfl)) (pgs_cons (pg_name (i := 3) nd rfl (.inl rfl)) pgs_nil))))
  (pss_cons (ps_set (i := 4) nd rfl (.inl rfl) (pe_lst pa_nil))
  (pss_cons (ps_for PassesOwn.never rfl (pi_tup (pe_tup (pa_cons (pv 2) (pa_cons (pv 3) pa_nil)))) (pg_name (i := 5) nd rfl (.inl rfl)) (pss_one (ps_expr (pe_bm PySem.F.plainAttrs_list PySem.F.slot_list_append PySem.F.type_list_append mt_append (pv 4) (pa_cons (pe_callB (call_min2 rfl) (by rfl) g_min (by decide +kernel) (pa_cons (pe_op op_pow pe_int pe_int) (pa_cons (pe_op op_add (pv 5) (pe_ix (r := rIxL K) ix_list (pe_lst (pa_cons pe_int (pa_cons (Hs.pe_own O__law_pull hr (by first | decide | omega) (by rfl) (pa_cons (pv 0) (pa_cons pe_int pa_nil))) (pa_cons (Hs.pe_own O__law_pull hr (by first | decide | omega) (by rfl) (pa_cons (pv 0) (pa_cons (pe_op op_add (pe_ix (r := rIxT K) ix_tup (pv 1) pe_int (fun _ _ => rfl)) pe_int) pa_nil))) pa_nil)))) (Hs.pe_own O__law_pull hr (by first | decide | omega) (by rfl) (pa_cons (pv 0) (pa_cons pe_int pa_nil))) (fun _ _ => rfl))) pa_nil))) pa_nil)))))
  (pss_one (ps_ret (pe_tup (pa_cons (pv 2) (pa_cons (pv 3) (pa_cons (pe_ix (r := rIxL K) ix_list (pv 4) pe_int (fun _ _ => rfl)) (pa_cons (pe_ix (r := rIxL K) ix_list (pv 4) pe_int (fun _ _ => rfl)) pa_nil)))))))))), ?_⟩)
  · obtain ⟨b, l, g, ns, n, w, x, y, rfl, _⟩ := h
    rfl
  · obtain ⟨b, l, g, ns, n, w, x, y, rfl, B, hn, hg, G, k⟩ := h
    refine ⟨_, rfl, _, rfl, b, l, g, ns, n, w, x, y, rfl, B, by omega, hg, G, fun sp z H1 hz nsp hsp B1 b1 => ?_⟩
    refine ⟨sp, _, rfl, st_of hsp, rfl, _, _, rfl, _, _, rfl, rfl, ?_⟩
    dsimp only [gName]
    refine q_asgL (xs := []) (el_lst ea_nil (by simp)) fun fl H2 nfl e2 hfl => ?_
    have B2 := B1.ext (m := n + 2) e2 (Nat.le_refl _)
    have g2 := e2 _ _ (b1.tup B hg)
    have nfb : fl ≠ b := bag_ne B1 nfl
    have nfl' : fl ≠ l := Ne.symm (ne_of_none B1.ls nfl)
    have k12 : But H H2 b := b1.ex e2
    refine q_forNTn (K := K) (xs := [.int z.1, .int z.2]) (eu_tup (ea_cons (ev_var rfl) (ea_cons (ev_var rfl) ea_nil)) (by simp)) (fun p i σ' H' => H2 p = none ∧ H' p = some (.tup [.int z.1, .int z.2]) ∧ BagAt H' b l ns (n + 2 + 3 * i) ∧ But H H' b ∧ H' g = some (.tup [.int w, .int x, .int y]) ∧ ∃ (v : Option V) (fs : List Int), σ' = [some (.ref b), some (.ref g), some (.int z.1), some (.int z.2), some (.ref fl), v] ∧ H' fl = some (.lst (fs.map V.int)) ∧ fs.length = i ∧ (∀ (j : Nat) (c d : Int), fs[j]? = some d → [z.1, z.2][j]? = some c → c ≤ d ∧ d.natAbs ≤ 1000000)) ?_ ?_ ?_ ?_
    · intro p H3 np e3 hp
      exact ⟨np, hp, B2.ext e3 (by omega), k12.ex e3, e3 _ _ g2, none, [], rfl, e3 _ _ hfl, rfl, fun j c d h => by cases h⟩
    · rintro p i σ' H' _ ⟨_, hp, _⟩
      exact st_of hp
    · rintro p i c σ' H' hc ⟨np, hp, Bi, ki, gi, v, fs, rfl, hfs, hlen, hfa⟩
      obtain ⟨cz, hcz, rfl⟩ : ∃ cz : Int, [z.1, z.2][i]? = some cz ∧ c = .int cz := by
        match i, hc with
        | 0, hc => exact ⟨z.1, rfl, (Option.some.inj hc).symm⟩
        | 1, hc => exact ⟨z.2, rfl, (Option.some.inj hc).symm⟩
      have cb : cz.natAbs ≤ 1000000 := by
        match i, hcz with
        | 0, hcz => cases hcz; exact hz.1
        | 1, hcz => cases hcz; exact hz.2
      have hi2 : i < 2 := (List.getElem?_eq_some_iff.mp hcz).1
      obtain ⟨⟨w0, w1⟩, _, _⟩ := G
      refine ⟨_, rfl, .inl ⟨rfl, _, sq_of hfs⟩, ?_⟩
      refine ⟨_, _, rfl, rfl, ⟨by decide, by decide, by decide⟩, _, rfl, _, rfl, b, l, ns, _, 3, rfl, Bi, by omega, by decide, by decide, fun u1 H3 u10 u11 B3 b3 => ⟨_, rfl, _, rfl, g, _, 0, _, rfl, rfl, st_of (b3.tup Bi gi), rfl, _, _, rfl, rfl, b, l, ns, _, _, rfl, B3, by omega, by omega, by omega, fun u2 H4 u20 u21 B4 b4 => ⟨sz_of (by simp), fun tl htl => ⟨_, rfl, b, l, ns, _, 3, rfl, B4.ext (Ex.new htl) (Nat.le_refl _), by omega, by decide, by decide, fun u3 H5 u30 u31 B5 b5 => ?_⟩⟩⟩⟩
      obtain ⟨ad, hat, ad0, ad1⟩ : ∃ ad : Int, atI [V.int 0, .int u1, .int u2] u3 = some (.int ad) ∧ 0 ≤ ad ∧ ad ≤ 100 := by
        obtain rfl | rfl | rfl : u3 = 0 ∨ u3 = 1 ∨ u3 = 2 := by omega
        · exact ⟨0, rfl, by decide, by decide⟩
        · exact ⟨u1, rfl, by omega, by omega⟩
        · exact ⟨u2, rfl, by omega, by omega⟩
      have eT := Ex.new (o := .lst [V.int 0, .int u1, .int u2]) htl
      have k35 : But H' H5 b := ((b3.trans b4).ex eT).trans b5
      have t5 := b5 _ _ (upd_same (H := H4) (a := tl) (o := .lst [V.int 0, .int u1, .int u2])) (bag_ne B4 htl)
      have f5 := k35 _ _ hfs nfb
      have t6 : (10 : Int) ^ Int.toNat 6 = 1000000 := by decide
      refine ⟨tl, _, u3, .int ad, rfl, rfl, sq_of t5, hat, _, _, rfl, rfl, _, _, rfl, fl, _, _, rfl, rfl, f5, sz_lt (by rw [List.length_map]; omega), ?_⟩
      refine ⟨np, ?_, bag_upd (B5.ext (Ex.refl _) (by omega)) (Ne.symm nfb) (Ne.symm nfl'), fun a o ha hb => ?_, ?_, _, fs ++ [if cz + ad < (10 : Int) ^ Int.toNat 6 then cz + ad else (10 : Int) ^ Int.toNat 6], rfl, by rw [upd_same, List.map_append] <;> rfl, by rw [List.length_append, hlen] <;> rfl, fun j c d hd hc' => ?_⟩
      · rw [upd_ne (ne_of (k35.tup Bi hp) f5 (by intro z; cases z))]
        exact k35.tup Bi hp
      · have hb2 : a ≠ fl := fun q => by
          rw [q, b1.fresh B1 nfl] at ha
          cases ha
        rw [upd_ne hb2]
        exact k35 _ _ (ki _ _ ha hb) hb
      · rw [upd_ne (ne_of (k35.tup Bi gi) f5 (by intro z; cases z))]
        exact k35.tup Bi gi
      · by_cases hj : j < fs.length
        · rw [List.getElem?_append_left hj] at hd
          exact hfa j c d hd hc'
        · rw [List.getElem?_append_right (by omega)] at hd
          have e0 : j - fs.length = 0 := by
            have : j - fs.length < 1 := (List.getElem?_eq_some_iff.mp hd).1
            omega
          have ej : j = i := by omega
          subst ej
          rw [e0] at hd
          rw [hcz] at hc'
          cases hc'
          have ed := (Option.some.inj hd).symm
          rw [t6] at ed
          subst ed
          split <;> omega
    · rintro p σ' H' ⟨np, hp, Bi, ki, gi, v, fs, rfl, hfs, hlen, hfa⟩
      obtain ⟨d1, d2, rfl⟩ : ∃ d1 d2, fs = [d1, d2] := match fs, hlen with
        | [d1, d2], _ => ⟨d1, d2, rfl⟩
      have q1 := hfa 0 z.1 d1 rfl rfl
      have q2 := hfa 1 z.2 d2 rfl rfl
      refine s_retU (xs := blV ⟨z.1, z.2, d1, d2⟩) (eu_tup (ea_cons (ev_var rfl) (ea_cons (ev_var rfl) (ea_cons (ev_ix rfl hfs rfl) (ea_cons (ev_ix rfl hfs rfl) ea_nil)))) (by show 4 ≤ 100000; decide)) fun t H3 nt e3 ht => ?_
      exact k t ⟨z.1, z.2, d1, d2⟩ H3 ⟨q1.1, q2.1⟩ ⟨hz, q1.2, q2.2⟩ ht (Bi.ext e3 (by show n + 2 + 3 * 2 ≤ n + 8; omega)) (ki.ex e3)
end
end Hs
namespace Hs
open PySem PySem.Spec PyProof.Rows L2 Evl
abbrev Pan := Pt × Pt × Str
end Hs
namespace Hs
open PySem PySem.Spec PyProof.Rows L2 Evl
section
variable {σ : L2.St} {H : Hp} {K : PySem.W.Frag} {t : TT} {te : TE}
theorem ev_sum {tl : TE} {ns : List Int} (h : EvL tl σ H (ns.map V.int)) : Ev (tCB (rSum K) (tCons tl tNil)) σ H (.int ns.sum) := fun H1 e Q q =>
  h H1 e _ fun p H2 hp e2 h2 => ⟨p, ns, rfl, sq_of h2, q H2 e2⟩
end
section
variable {P : Program} {w : World} {K : PySem.W.Frag} {mg : Str → Option Value} {base : Heap} {f C S : Addr} {fd : FuncData}
/-! ### the law's own sums -/
def spSum (K : PySem.W.Frag) : Sp := fun vs H Q _ => ∃ (a : Addr) (ps : List Addr) (xs : List Tri), vs = [.ref a] ∧ SqL K H a (ps.map V.ref) ∧ Lights K H ps xs ∧ xs.length ≤ 1000 ∧ RetU (tri (sum3 xs)) H Q
abbrev sSum : Stmt := top 110
theorem scSum : FnScope ["_law_some", "_law_k", "_law_one_here"] ["_law_some"] (defScope sSum) := ⟨rfl, rfl, rfl, by decide +kernel, rfl, by decide +kernel, by decide +kernel⟩
/-- the k-th part -/
def part (k : Nat) (x : Tri) : Int := [x.1, x.2.1, x.2.2].getD k 0
theorem part_at {x : Tri} {k : Nat} (h : k < 3) : atI (tri x) (k : Int) = some (.int (part k x)) := by
  obtain rfl | rfl | rfl : k = 0 ∨ k = 1 ∨ k = 2 := by omega
  · rfl
  · rfl
  · rfl
theorem given_all {n : Nat} {v : Nat → V} : given n (fun _ => true) v = (List.range n).map v := by
  unfold given
  rw [List.filter_eq_self.mpr fun _ _ => rfl]
theorem parts_given {xs : List Tri} {k : Nat} : given xs.length (fun _ => true) (fun i => .int (part k (xs.getD i (0, 0, 0)))) = (xs.map (part k)).map V.int := by
  rw [given_all]
  refine List.ext_getElem (by simp) fun i h1 h2 => ?_
  simp [List.getD_eq_getElem?_getD]
  rw [List.getElem?_eq_getElem (by simpa using h2)]
  rfl
theorem ok_sum (F : FnP K "_law_sum" sSum f fd) (g_tuple : mg "tuple" = none) (g_range : mg "range" = none) (g_sum : mg "sum" = none) : FnOk P w K mg base CX0 1 f fd ["_law_some"] (spSum K) := by
  have nd := scSum.nd
  refine F.ok scSum (fun vs H Q E h => ?_) (fun cdv A outer s H vs Q E hr h => ⟨_, PSs.nox (pss_one (ps_ret (pe_callTy call_tuple_of (by rfl) g_tuple (by decide +kernel) (pa_cons (pe_lc (own := [("_law_k", 1)]) rfl nd (pi_range1 (by rfl) g_range (pa_cons pe_int pa_nil)) (blkOk_by (N := ["_law_some", "_law_k", "_law_one_here"]) (sc := defScope (Hs.top 110)) (by decide +kernel)) (fun _ _ _ _ _ => (pg_name (i := 1) nd rfl (Or.inr rfl))) (fun _ _ _ _ _ => pts_nil) (fun _ _ _ _ _ => (pe_callB (r := rSum K) (cr_sum rfl) (by rfl) g_sum (by decide +kernel) (pa_cons (pe_lc (own := [("_law_one_here", 2)]) rfl nd (Hs.pi_listK (K := K) (pv 0)) (blkOk_by (N := ["_law_some", "_law_k", "_law_one_here"]) (by rfl)) (fun _ _ _ _ _ => (pg_name (i := 2) nd rfl (Or.inl rfl))) (fun _ _ _ _ _ => pts_nil) (fun _ _ _ _ _ => (pe_ix (r := rIxT K) ix_tup (pv 2) (pv 1) (fun _ _ => rfl)))) pa_nil)))) pa_nil)))), ?_⟩)
  · obtain ⟨a, ps, xs, rfl, _⟩ := h
    rfl
  · obtain ⟨a, ps, xs, rfl, hS, ⟨hl, hL⟩, hz, k⟩ := h
    refine eu_tuple (K := K) (xs := tri (sum3 xs)) (el_lcR1 (n := 3) (fun _ => true) (fun i => .int ((xs.map (part i)).sum)) (ea_cons ev_c ea_nil) (by decide) (fun _ => rfl) (fun i H1 _ _ => et_yes) (fun i H1 e1 hi _ => ?_)) H (Ex.refl H) _ k
    refine ev_sum (K := K) ?_
    rw [← parts_given]
    have hl2 : (ps.map V.ref).length = xs.length := by rw [List.length_map, hl]
    rw [← hl2]
    refine el_lcL (fun _ => true) _ (ev_var rfl) (ex_l e1 hS) (by omega) (fun _ => rfl) (fun i x H2 _ _ => et_yes) (fun j x H2 e2 hx _ => ?_)
    rw [List.getElem?_map] at hx
    obtain ⟨p, hp, rfl⟩ := Option.map_eq_some_iff.mp hx
    obtain ⟨y, hy⟩ : ∃ y, xs[j]? = some y := by
      have : j < xs.length := by
        rw [← hl]
        exact (List.getElem?_eq_some_iff.mp hp).1
      exact ⟨_, List.getElem?_eq_getElem this⟩
    have hy1 := ex_t (e1.trans e2) (hL j p y hp hy)
    have ey : xs.getD j (0, 0, 0) = y := by
      rw [List.getD_eq_getElem?_getD, hy]
      rfl
    rw [ey]
    exact ev_op (ev_var rfl) (ev_var rfl) (rv_ixT hy1 (part_at (by omega)))
def spLetters : Sp := fun vs H Q _ => ∃ (b l : Addr) (ns : List Int) (n : Nat), vs = [.ref b] ∧ BagAt H b l ns n ∧ n < 900000 ∧ ∀ (z : Str) (H' : Hp), z ∈ S8 → BagAt H' b l ns (n + 1) → But H H' b → Q (.str z) H'
def triB (x : Tri) : Prop := (0 ≤ x.1 ∧ x.1 ≤ 1000000) ∧ (0 ≤ x.2.1 ∧ x.2.1 ≤ 1000000) ∧ (0 ≤ x.2.2 ∧ x.2.2 ≤ 1000000)
def spTint : Sp := fun vs H Q _ => ∃ (b l : Addr) (ns : List Int) (n : Nat), vs = [.ref b] ∧ BagAt H b l ns n ∧ n < 900000 ∧ ∀ (p : Addr) (x : Tri) (H' : Hp), triB x → H p = none → H' p = some (.tup (tri x)) → BagAt H' b l ns (n + 6) → But H H' b → Q (.ref p) H'
abbrev sLetters : Stmt := top 116
theorem scLetters : FnScope ["_law_bag_here"] ["_law_bag_here"] (defScope sLetters) := ⟨rfl, rfl, rfl, by decide +kernel, rfl, by decide +kernel, by decide +kernel⟩
theorem ok_letters (F : FnP K "_law_letters" sLetters f fd) (O__law_pull : Own P w K mg base 1 "_law_pull" ["_law_bag_here", "_law_many"] spPull) : FnOk P w K mg base CX0 2 f fd ["_law_bag_here"] spLetters := by
  have nd := scLetters.nd
  refine F.ok scLetters (fun vs H Q E h => ?_) (fun cdv A outer s H vs Q E hr h => ⟨_, PSs.nox (pss_one (ps_ret (pe_ix (r := rIxL K) ix_list (pe_lst (pa_cons pe_str (pa_cons pe_str (pa_cons pe_str (pa_cons pe_str (pa_cons pe_str (pa_cons pe_str (pa_cons pe_str (pa_cons pe_str pa_nil))))))))) (Hs.pe_own O__law_pull hr (by first | decide | omega) (by rfl) (pa_cons (pv 0) (pa_cons pe_int pa_nil))) (fun _ _ => rfl)))), ?_⟩)
  · obtain ⟨b, l, ns, n, rfl, _⟩ := h
    rfl
  · obtain ⟨b, l, ns, n, rfl, B, hn, k⟩ := h
    refine ⟨sz_of (by simp), fun p hp => ⟨_, rfl, b, l, ns, n, 8, rfl, B.ext (Ex.new hp) (Nat.le_refl _), by omega, by decide, by decide, fun v H1 v0 v1 B1 b1 => ?_⟩⟩
    obtain ⟨z, hz, hat⟩ := letters_at v0 v1
    exact ⟨p, siftsV, v, _, rfl, rfl, sq_of (b1 _ _ upd_same (bag_ne B hp)), hat, k z H1 hz B1 ((But.of (Ex.new hp)).trans b1)⟩
abbrev sTint : Stmt := top 114
theorem scTint : FnScope ["_law_bag_here", "_law_found", "_law_k", "_law_wide"] ["_law_bag_here"] (defScope sTint) := ⟨rfl, rfl, rfl, by decide +kernel, rfl, by decide +kernel, by decide +kernel⟩
theorem tint_at {wd v : Int} (hw : 0 ≤ wd ∧ wd ≤ 1000000) (h0 : 0 ≤ v) (h1 : v < 6) : ∃ z : Int, atI [V.int 0, .int 1, .int 255, .int (10 ^ 6), .int (wd.fmod 10), .int wd] v = some (.int z) ∧ 0 ≤ z ∧ z ≤ 1000000 := by
  have hm := modP (i := wd) (j := 10) (by decide)
  obtain rfl | rfl | rfl | rfl | rfl | rfl : v = 0 ∨ v = 1 ∨ v = 2 ∨ v = 3 ∨ v = 4 ∨ v = 5 := by omega
  · exact ⟨_, rfl, by decide, by decide⟩
  · exact ⟨_, rfl, by decide, by decide⟩
  · exact ⟨_, rfl, by decide, by decide⟩
  · exact ⟨_, rfl, by decide, by decide⟩
  · exact ⟨_, rfl, by omega, by omega⟩
  · exact ⟨_, rfl, hw.1, hw.2⟩
theorem ok_tint (F : FnP K "_law_tint" sTint f fd) (O__law_pull : Own P w K mg base 1 "_law_pull" ["_law_bag_here", "_law_many"] spPull) (g_range : mg "range" = none) (g_tuple : mg "tuple" = none) : FnOk P w K mg base CX0 2 f fd ["_law_bag_here"] spTint := by
  have nd := scTint.nd
  refine F.ok scTint (fun vs H Q E h => ?_) (fun cdv A outer s H vs Q E hr h => ⟨_, PSs.nox (pss_cons (ps_set (i := 1) nd rfl (.inl rfl) (pe_lst pa_nil))
  (pss_cons (ps_for PassesOwn.never rfl (pi_range1 (by rfl) g_range (pa_cons pe_int pa_nil)) (pg_name (i := 2) nd rfl (.inl rfl)) (pss_cons (ps_set (i := 3) nd rfl (.inl rfl) (Hs.pe_own O__law_pull hr (by first | decide | omega) (by rfl) (pa_cons (pv 0) (pa_cons (pe_op op_add (pe_op op_pow pe_int pe_int) pe_int) pa_nil))))
  (pss_one (ps_expr (pe_bm PySem.F.plainAttrs_list PySem.F.slot_list_append PySem.F.type_list_append mt_append (pv 1) (pa_cons (pe_ix (r := rIxL K) ix_list (pe_lst (pa_cons pe_int (pa_cons pe_int (pa_cons pe_int (pa_cons (pe_op op_pow pe_int pe_int) (pa_cons (pe_op op_modN (pv 3) pe_int) (pa_cons (pv 3) pa_nil))))))) (Hs.pe_own O__law_pull hr (by first | decide | omega) (by rfl) (pa_cons (pv 0) (pa_cons pe_int pa_nil))) (fun _ _ => rfl)) pa_nil))))))
  (pss_one (ps_ret (pe_callTy call_tuple_of (by rfl) g_tuple (by decide +kernel) (pa_cons (pv 1) pa_nil)))))), ?_⟩)
  · obtain ⟨b, l, ns, n, rfl, _⟩ := h
    rfl
  · obtain ⟨b, l, ns, n, rfl, B, hn, k⟩ := h
    refine ⟨sz_of (by simp), fun fl hfl => ?_⟩
    have nfb := bag_ne B hfl
    have nfl : fl ≠ l := Ne.symm (ne_of_none B.ls hfl)
    show tSeq _ _ _ [some (.ref b), some (.ref fl), none, none] _
    refine q_forR1 (n := 3) (ea_cons ev_c ea_nil) (by decide) (fun i σ' H' => ∃ (v2 v3 : Option V) (zs : List Int), σ' = [some (.ref b), some (.ref fl), v2, v3] ∧ BagAt H' b l ns (n + 2 * i) ∧ But H H' b ∧ H' fl = some (.lst (zs.map V.int)) ∧ zs.length = i ∧ ∀ z ∈ zs, 0 ≤ z ∧ z ≤ 1000000) ?_ ?_ ?_
    · intro H1 e1
      exact ⟨none, none, [], rfl, (B.ext (Ex.new hfl) (Nat.le_refl _)).ext e1 (by omega), But.of ((Ex.new hfl).trans e1), e1 _ _ upd_same, rfl, fun z hz => by cases hz⟩
    · rintro i σ' H1 hi ⟨v2, v3, zs, rfl, B1, b1, hf1, hz, hzs⟩
      refine ⟨_, rfl, _, _, rfl, rfl, ⟨by decide, by decide, by decide⟩, _, _, rfl, rfl, b, l, ns, n + 2 * i, _, rfl, B1, by omega, by decide, by decide, fun wd H2 w0 w1 B2 b2 => ?_⟩
      have hf2 := b2 _ _ hf1 nfb
      have wb : 0 ≤ wd ∧ wd ≤ 1000000 := ⟨w0, by
        have e : (10 : Int) ^ Int.toNat 6 = 1000000 := by decide
        omega⟩
      refine ⟨_, rfl, .inl ⟨rfl, _, sq_of hf2⟩, ?_⟩
      refine ⟨_, _, rfl, rfl, ⟨by decide, by decide, by decide⟩, _, rfl, _, _, rfl, rfl, (show (10 : Int) ≠ 0 by decide), _, rfl, sz_of (by simp), fun p hp => ?_⟩
      have e3 := Ex.new (o := .lst [V.int 0, .int 1, .int 255, .int (10 ^ 6), .int (wd.fmod 10), .int wd]) hp
      refine ⟨_, rfl, b, l, ns, n + 2 * i + 1, 6, rfl, B2.ext e3 (Nat.le_refl _), by omega, by decide, by decide, fun v H4 v0 v1 B4 b4 => ?_⟩
      obtain ⟨z, hat, z0, z1⟩ := tint_at wb v0 v1
      have hf4 := b4 _ _ (e3 _ _ hf2) nfb
      refine ⟨p, _, v, _, rfl, rfl, sq_of (b4 _ _ upd_same (bag_ne B2 hp)), hat, fl, _, _, rfl, rfl, hf4, sz_lt (by rw [List.length_map]; omega), ?_⟩
      refine ⟨_, _, zs ++ [z], rfl, bag_upd (B4.ext (Ex.refl _) (by omega)) (Ne.symm nfb) (Ne.symm nfl), fun a o ha hb => ?_, by rw [upd_same, List.map_append] <;> rfl, by rw [List.length_append, hz] <;> rfl, fun y hy => ?_⟩
      · rw [upd_ne (ne_of_none ha hfl)]
        exact b4 _ _ (e3 _ _ (b2 _ _ (b1 _ _ ha hb) hb)) hb
      · rcases List.mem_append.mp hy with q | q
        · exact hzs y q
        · rw [List.mem_singleton.mp q]
          exact ⟨z0, z1⟩
    · rintro σ' H1 ⟨v2, v3, zs, rfl, B1, b1, hf1, hz, hzs⟩
      obtain ⟨x, y, z, rfl⟩ : ∃ x y z, zs = [x, y, z] := match zs, hz with
        | [x, y, z], _ => ⟨x, y, z, rfl⟩
      refine ⟨_, rfl, fl, _, rfl, .inl ⟨sq_of hf1, fun p hp => ?_⟩⟩
      refine k p (x, y, z) _ ⟨hzs x (by simp), hzs y (by simp), hzs z (by simp)⟩ ?_ upd_same (B1.ext (Ex.new hp) (by show n + 2 * 3 ≤ n + 6; omega)) (b1.ex (Ex.new hp))
      cases hq : H p with
      | none => rfl
      | some o =>
        by_cases hpb : p = b
        · obtain ⟨i, y, s, c, h, _⟩ := B1.ex
          rw [hpb, h] at hp
          cases hp
        · rw [b1 _ _ hq hpb] at hp
          cases hp
def spOther : Sp := fun vs H Q _ => ∃ (b l g q : Addr) (ns : List Int) (n : Nat) (w x y : Int) (z : Pt), vs = [.ref b, .ref g, .ref q] ∧ BagAt H b l ns n ∧ n < 850000 ∧ H g = some (.tup [.int w, .int x, .int y]) ∧ Grid w x y ∧ H q = some (.tup (prV z)) ∧ Near z ∧
  ∀ (p : Addr) (z' : Pt) (H' : Hp), Near z' → z' ≠ z → H p = none → H' p = some (.tup (prV z')) → BagAt H' b l ns (n + 2) → But H H' b → Q (.ref p) H'
theorem ev_nePt {σ : L2.St} {H : Hp} {tx ty : TE} {p q : Addr} {x y : Pt} (hx : Ev tx σ H (.ref p)) (hy : Ev ty σ H (.ref q)) (px : SqT K H p (prV x)) (qy : SqT K H q (prV y)) : Ev (tOp (rNeD K) tx ty) σ H (.bl (!decide (x = y))) := fun H1 e Q k =>
  hx H1 e _ fun H2 e2 => hy H2 (e.trans e2) _ fun H3 e3 => ⟨_, _, dp_pt (ex_t ((e.trans e2).trans e3) px), dp_pt (ex_t ((e.trans e2).trans e3) qy), rfl, rfl, by rw [PySem.W.Datum.eqv]; exact k H3 (e2.trans e3)⟩
abbrev sOther : Stmt := top 113
theorem scOther : FnScope ["_law_bag_here", "_law_grid_here", "_law_spot_here", "_law_found"] ["_law_bag_here", "_law_grid_here", "_law_spot_here"] (defScope sOther) := ⟨rfl, rfl, rfl, by decide +kernel, rfl, by decide +kernel, by decide +kernel⟩
theorem ok_other (F : FnP K "_law_other_spot" sOther f fd) (O__law_spot : Own P w K mg base 2 "_law_spot" ["_law_bag_here", "_law_grid_here"] spSpot) : FnOk P w K mg base CX0 3 f fd ["_law_bag_here", "_law_grid_here", "_law_spot_here"] spOther := by
  have nd := scOther.nd
  refine F.ok scOther (fun vs H Q E h => ?_) (fun cdv A outer s H vs Q E hr h => ⟨_, PSs.nox (pss_cons (ps_set (i := 3) nd rfl (.inl rfl) (Hs.pe_own O__law_spot hr (by first | decide | omega) (by rfl) (pa_cons (pv 0) (pa_cons (pv 1) pa_nil))))
  (pss_cons (ps_if (pt_cmpR (op_neD hr.units) (pv 3) (pv 2) (nomark _)) (pss_one (ps_ret (pv 3))) pss_nil)
  (pss_one (ps_ret (pe_tup (pa_cons (pe_op op_add (pe_ix (r := rIxT K) ix_tup (pv 2) pe_int (fun _ _ => rfl)) (pe_ifExp (pt_cmpR op_lt (pe_ix (r := rIxT K) ix_tup (pv 2) pe_int (fun _ _ => rfl)) (pe_op op_pow pe_int pe_int) (nomark _)) pe_int (pe_op op_sub pe_int pe_int))) (pa_cons (pe_ix (r := rIxT K) ix_tup (pv 2) pe_int (fun _ _ => rfl)) pa_nil))))))), ?_⟩)
  · obtain ⟨b, l, g, q, ns, n, w, x, y, z, rfl, _⟩ := h
    rfl
  · obtain ⟨b, l, g, q, ns, n, w, x, y, z, rfl, B, hn, hg, G, hq, cz, k⟩ := h
    refine ⟨_, rfl, _, rfl, b, l, g, ns, n, w, x, y, rfl, B, by omega, hg, G, fun p u H1 cu np hp B1 b1 => ?_⟩
    have hq1 := st_of (K := K) (b1.tup B hq)
    dsimp only [gName, List.set]
    refine q_when (et_test (ev_nePt (ev_var rfl) (ev_var rfl) (st_of hp) hq1)) (fun ht H2 e2 => ?_) (fun ht H2 e2 => ?_)
    · exact s_ret (ev_var rfl) fun H3 e3 => k p u H3 cu (by intro z; rw [z] at ht; simp at ht) np ((e2.trans e3) _ _ hp) (B1.ext (e2.trans e3) (Nat.le_refl _)) (b1.ex (e2.trans e3))
    · have hq2 := ex_t e2 hq1
      have t6 : (10 : Int) ^ Int.toNat 6 = 1000000 := by decide
      obtain ⟨c1, c2⟩ := cz
      refine s_retU (xs := prV (z.1 + (if z.1 < 1000000 then 1 else -1), z.2)) (eu_tup (ea_cons (ev_op (ev_ixt rfl hq2 rfl) (ev_if (et_test (ev_op (ev_ixt rfl hq2 rfl) (ev_op ev_c ev_c (rv_I ⟨by decide, by decide, by decide⟩)) rv_I0)) (fun hb => ?_) (fun hb => ?_)) rv_I0) (ea_cons (ev_ixt rfl hq2 rfl) ea_nil)) (by show 2 ≤ 100000; decide)) fun r H3 nr e3 hr3 => k r (z.1 + (if z.1 < 1000000 then 1 else -1), z.2) H3 ⟨?_, c2⟩ ?_ (b1.fresh B1 (fresh_back e2 nr)) hr3 (B1.ext (e2.trans e3) (Nat.le_refl _)) (b1.ex (e2.trans e3))
      · rw [t6] at hb
        rw [if_pos (of_decide_eq_true hb)]
        exact ev_c
      · rw [t6] at hb
        rw [if_neg (of_decide_eq_false hb)]
        exact ev_op ev_c ev_c rv_I0
      · show (z.1 + (if z.1 < 1000000 then 1 else -1)).natAbs ≤ 1000000
        split <;> omega
      · intro e
        have e1 : z.1 + (if z.1 < 1000000 then 1 else -1) = z.1 := congrArg Prod.fst e
        split at e1 <;> omega
end
end Hs
namespace Hs
open PySem PySem.Spec PyProof.Rows L2 Evl
/-! ### what will not be changed any more, locked at any turn -/
def tFrzA (t : TE) : TE := fun σ H Q => t σ H fun v H1 => ∃ d u, H1 d = some u ∧ Mut (some u) ∧ ∀ od, Q v (upd H1 d (.frz od u))
theorem pe_frzA {X : Cx} {e : Expr} {t : TE} (h : PE X e t) : PE X e (tFrzA t) := ⟨fun pins s σ H Q I q => thn (h.run pins s σ H _ I q) fun _ s1 ⟨x, H1, I1, r, d, u, hd, mu, k⟩ => by
  obtain ⟨od, I2⟩ := I1.lock hd mu
  exact ⟨x, _, I2, r, k od⟩⟩
/-! ### the law's own model: five tables by their words -/
def mW : List Str := ["lamp", "post", "pane", "look", "came"]
def rowM (D : Str → Addr) : List (Key × V) := mW.map fun w => (.inr w, .ref (D w))
abbrev Tabs5 := Str → List (Key × V)
def RawM (H : Hp) (m : Addr) (T : Tabs5) : Prop := ∃ D : Str → Addr, Fz H m (rowM D) ∧ ∀ w ∈ mW, Fz H (D w) (T w)
theorem RawM.ext {H H' : Hp} {m : Addr} {T : Tabs5} (h : RawM H m T) (e : Ex H H') : RawM H' m T := let ⟨D, h1, h2⟩ := h; ⟨D, h1.ext e, fun w hw => (h2 w hw).ext e⟩
theorem Kp.raw {H H' : Hp} {m : Addr} {T : Tabs5} (e : Kp H H') (h : RawM H m T) : RawM H' m T := let ⟨D, h1, h2⟩ := h; ⟨D, e.fz h1, fun w hw => e.fz (h2 w hw)⟩
theorem valV_row {D : Str → Addr} {w : Str} (h : w ∈ mW) : valV (rowM D) (.inr w) = some (.ref (D w)) := by
  simp only [mW, List.mem_cons, List.not_mem_nil, or_false] at h
  rcases h with rfl | rfl | rfl | rfl | rfl <;> rfl
theorem RawM.tab {H : Hp} {m : Addr} {T : Tabs5} (h : RawM H m T) {w : Str} (hw : w ∈ mW) : ∃ d, DGet H m (.str w) (some (.ref d)) ∧ Fz H d (T w) := by
  obtain ⟨D, h1, h2⟩ := h
  refine ⟨D w, ?_, h2 w hw⟩
  have z := h1.get (k := .inr w)
  rw [valV_row hw] at z
  exact z
/-- a copy, not yet locked -/
structure CopyM (H : Hp) (a : Addr) (D : Str → Addr) (T : Tabs5) : Prop where
  row : H a = some (.dK (rowM D))
  tab : ∀ w ∈ mW, H (D w) = some (.dK (T w))
  na : ∀ w ∈ mW, D w ≠ a
  ne : ∀ w ∈ mW, ∀ u ∈ mW, w ≠ u → D w ≠ D u
def spNewM : Sp := fun vs H Q _ => vs = [] ∧ ∀ (T : Tabs5) m H', H m = none → Ex H H' → (∀ w : Str, w ≠ "came" → T w = []) → T "came" = comingV → RawM H' m T → Q (.ref m) H'
def spCopyM : Sp := fun vs H Q _ => ∃ m T, vs = [.ref m] ∧ RawM H m T ∧ (∀ w ∈ mW, (T w).length ≤ 1000) ∧ ∀ a D H', H a = none → (∀ w ∈ mW, H (D w) = none) → Ex H H' → CopyM H' a D T → Q (.ref a) H'
def putM (T : Tabs5) (w : Str) (n : Int) (v : V) : Tabs5 := fun u => if u = "came" then putK (T "came") (.inr w) (.int (n + 1)) else if u = w then putK (T w) (.inl n) v else T u
def spPutM : Sp := fun vs H Q _ => ∃ (m : Addr) (T : Tabs5) (w : Str) (n : Int) (v : V), vs = [.ref m, .str w, v] ∧ RawM H m T ∧ (∀ w ∈ mW, (T w).length ≤ 1000) ∧ w ∈ mW ∧ w ≠ "came" ∧ valV (T "came") (.inr w) = some (.int n) ∧ ∀ a H', H a = none → Ex H H' → RawM H' a (putM T w n v) → Q (.ref a) H'
section
variable {P : Program} {w : World} {K : PySem.W.Frag} {mg : Str → Option Value} {base : Heap} {f : Addr} {fd : FuncData}
abbrev sNewM : Stmt := top 118
theorem scNewM : FnScope ["_law_came"] [] (defScope sNewM) := ⟨rfl, rfl, rfl, by decide +kernel, rfl, by decide +kernel, by decide +kernel⟩
theorem frz_new {H : Hp} {p : Addr} {o : HO} {od : Obj} (h : H p = none) : Ex H (upd (upd H p o) p (.frz od o)) := Ex.mut (Ex.new h) h
theorem frz_new2 {H : Hp} {p : Addr} {o o2 : HO} {od : Obj} (h : H p = none) : Ex H (upd (upd (upd H p o) p o2) p (.frz od o2)) := Ex.mut (Ex.mut (Ex.new h) h) h
theorem ok_newM (F : FnP K "_law_new" sNewM f fd) : FnOk P w K mg base CX0 1 f fd [] spNewM := by
  have nd := scNewM.nd
  refine F.ok scNewM (fun vs H Q E h => ?_) (fun cdv A outer s H vs Q E hr h => ⟨_, PSs.nox (pss_cons (ps_set (i := 0) nd rfl (.inl rfl) (Hs.pe_frz (pe_disp (pps_cons pe_str pe_int (pps_cons pe_str pe_int (pps_cons pe_str pe_int (pps_cons pe_str pe_int pps_nil)))) (by rfl) (by rfl) (by simp) (by decide))))
  (pss_one (ps_ret (Hs.pe_frz (pe_disp (pps_cons pe_str (Hs.pe_frz pe_dnewK) (pps_cons pe_str (Hs.pe_frz pe_dnewK) (pps_cons pe_str (Hs.pe_frz pe_dnewK) (pps_cons pe_str (Hs.pe_frz pe_dnewK) (pps_cons pe_str (pv 0) pps_nil))))) (by rfl) (by rfl) (by simp) (by decide)))))), ?_⟩)
  · rw [h.1] <;> rfl
  · obtain ⟨rfl, k⟩ := h
    refine fun cm hcm => ⟨upd_same, comingV, rfl, by decide, cm, _, rfl, upd_same, True.intro, fun od0 => ?_⟩
    have em : mergeK [] comingV = comingV := by rfl
    rw [em]
    have x0 : Ex H (upd (upd (upd H cm (.dK [])) cm (.dK comingV)) cm (.frz od0 (.dK comingV))) := frz_new2 hcm
    have f0 : Fz (upd (upd (upd H cm (.dK [])) cm (.dK comingV)) cm (.frz od0 (.dK comingV))) cm comingV := ⟨od0, upd_same⟩
    generalize upd (upd (upd H cm (.dK [])) cm (.dK comingV)) cm (.frz od0 (.dK comingV)) = H0 at x0 f0 ⊢
    dsimp only [gName, List.set]
    refine fun m hm => ?_
    have xm := Ex.new (o := .dK []) hm
    have hm0 : upd H0 m (.dK []) m = some (.dK []) := upd_same
    generalize upd H0 m (.dK []) = Hm at xm hm0 ⊢
    refine fun d1 h1 => ⟨d1, _, rfl, upd_same, True.intro, fun o1 => ?_⟩
    have x1 : Ex Hm (upd (upd Hm d1 (.dK [])) d1 (.frz o1 (.dK []))) := frz_new h1
    have f1 : Fz (upd (upd Hm d1 (.dK [])) d1 (.frz o1 (.dK []))) d1 [] := ⟨o1, upd_same⟩
    generalize upd (upd Hm d1 (.dK [])) d1 (.frz o1 (.dK [])) = H1 at x1 f1 ⊢
    refine fun d2 h2 => ⟨d2, _, rfl, upd_same, True.intro, fun o2 => ?_⟩
    have x2 : Ex H1 (upd (upd H1 d2 (.dK [])) d2 (.frz o2 (.dK []))) := frz_new h2
    have f2 : Fz (upd (upd H1 d2 (.dK [])) d2 (.frz o2 (.dK []))) d2 [] := ⟨o2, upd_same⟩
    generalize upd (upd H1 d2 (.dK [])) d2 (.frz o2 (.dK [])) = H2 at x2 f2 ⊢
    refine fun d3 h3 => ⟨d3, _, rfl, upd_same, True.intro, fun o3 => ?_⟩
    have x3 : Ex H2 (upd (upd H2 d3 (.dK [])) d3 (.frz o3 (.dK []))) := frz_new h3
    have f3 : Fz (upd (upd H2 d3 (.dK [])) d3 (.frz o3 (.dK []))) d3 [] := ⟨o3, upd_same⟩
    generalize upd (upd H2 d3 (.dK [])) d3 (.frz o3 (.dK [])) = H3 at x3 f3 ⊢
    refine fun d4 h4 => ⟨d4, _, rfl, upd_same, True.intro, fun o4 => ?_⟩
    have x4 : Ex H3 (upd (upd H3 d4 (.dK [])) d4 (.frz o4 (.dK []))) := frz_new h4
    have f4 : Fz (upd (upd H3 d4 (.dK [])) d4 (.frz o4 (.dK []))) d4 [] := ⟨o4, upd_same⟩
    generalize upd (upd H3 d4 (.dK [])) d4 (.frz o4 (.dK [])) = H4 at x4 f4 ⊢
    have e14 := (x2.trans x3).trans x4
    have em4 := x1.trans e14
    have hm4 := em4 _ _ hm0
    let D : Str → Addr := fun w => if w = "lamp" then d1 else if w = "post" then d2 else if w = "pane" then d3 else if w = "look" then d4 else cm
    refine ⟨_, rfl, hm4, rowM D, rfl, (show 5 ≤ 15 by decide), m, _, rfl, upd_same, True.intro, fun om => ?_⟩
    have em2 : mergeK [] (rowM D) = rowM D := by rfl
    rw [em2]
    have hmn : H0 m = none := hm
    have e04 := xm.trans em4
    have eE : Ex H0 (upd (upd H4 m (.dK (rowM D))) m (.frz om (.dK (rowM D)))) := Ex.mut (Ex.mut e04 hmn) hmn
    have nm : ∀ {d : Addr} {kvs : List (Key × V)}, Fz H4 d kvs → Fz (upd (upd H4 m (.dK (rowM D))) m (.frz om (.dK (rowM D)))) d kvs := fun {d kvs} ⟨od, h⟩ => ⟨od, by
      have n := ne_of h hm4 (by intro z; cases z)
      rw [upd_ne n, upd_ne n]
      exact h⟩
    refine k (fun w => if w = "came" then comingV else []) m _ (fresh_back x0 hm) (x0.trans eE) (fun w hw => if_neg hw) (if_pos rfl) ⟨D, ⟨om, upd_same⟩, fun w hw => ?_⟩
    simp only [mW, List.mem_cons, List.not_mem_nil, or_false] at hw
    rcases hw with rfl | rfl | rfl | rfl | rfl
    · exact nm (f1.ext e14)
    · exact nm (f2.ext (x3.trans x4))
    · exact nm (f3.ext x4)
    · exact nm f4
    · exact nm (f0.ext e04)
abbrev sCopyM : Stmt := top 119
theorem scCopyM : FnScope ["_law_m", "_law_found", "_law_word"] ["_law_m"] (defScope sCopyM) := ⟨rfl, rfl, rfl, by decide +kernel, rfl, by decide +kernel, by decide +kernel⟩
theorem mW_new {i : Nat} {w : Str} (h : mW[i]? = some w) : w ∉ mW.take i := by
  match i, h with
  | 0, h => cases h; decide +kernel
  | 1, h => cases h; decide +kernel
  | 2, h => cases h; decide +kernel
  | 3, h => cases h; decide +kernel
  | 4, h => cases h; decide +kernel
  | i + 5, h => cases h
theorem ok_copyM (F : FnP K "_law_copy" sCopyM f fd) (g_dict : mg "dict" = none) : FnOk P w K mg base CX0 1 f fd ["_law_m"] spCopyM := by
  have nd := scCopyM.nd
  refine F.ok scCopyM (fun vs H Q E h => ?_) (fun cdv A outer s H vs Q E hr h => ⟨_, PSs.nox (pss_cons (ps_set (i := 1) nd rfl (.inl rfl) pe_dnewK)
  (pss_cons (ps_for PassesOwn.never rfl (pi_keys (pv 0)) (pg_name (i := 2) nd rfl (.inl rfl)) (pss_one (ps_dput (Hs.un1 hr) (pv 1) (pv 2) (pe_callTy call_dictD (by rfl) g_dict (by decide +kernel) (pa_cons (pe_dget (Hs.un1 hr) (pv 0) (pv 2) (fun _ _ => rfl)) pa_nil)) (by rfl))))
  (pss_one (ps_ret (pv 1))))), ?_⟩)
  · obtain ⟨m, T, rfl, _⟩ := h
    rfl
  · obtain ⟨m, T, rfl, hM, hz, k⟩ := h
    obtain ⟨Dm, ⟨odm, hm⟩, hT⟩ := hM
    refine fun a ha => ?_
    dsimp only [gName, List.set]
    have xa := Ex.new (o := .dK []) ha
    refine ⟨_, rfl, m, odm, rfl, .inl ⟨_, xa _ _ hm, ?_⟩⟩
    refine for_it walk_keys (fun i σ' H' => (∃ v2 : Option V, σ' = [some (.ref m), some (.ref a), v2]) ∧ Ex H H' ∧ ∃ D : Str → Addr, H' a = some (.dK ((mW.take i).map fun w => (.inr w, .ref (D w)))) ∧ (∀ w ∈ mW.take i, H' (D w) = some (.dK (T w)) ∧ H (D w) = none ∧ D w ≠ a) ∧ ∀ w ∈ mW.take i, ∀ u ∈ mW.take i, w ≠ u → D w ≠ D u) ⟨⟨none, rfl⟩, xa, Dm, upd_same, (fun w hw => by cases hw), fun w hw => by cases hw⟩ (fun i σ' H' _ q => q.2.1 _ _ hm) (fun i x σ' H' H'' hi q y => ?_) (fun σ' H' q => ?_)
    · obtain ⟨⟨v2, rfl⟩, e, D, h1, h2, h3⟩ := q
      obtain ⟨rfl, key, v, hkv, rfl⟩ := y
      unfold rowM at hkv
      rw [List.getElem?_map] at hkv
      obtain ⟨w, hw, ez⟩ := Option.map_eq_some_iff.mp hkv
      cases ez
      have hwm : w ∈ mW := List.mem_of_getElem? hw
      have hnew := mW_new hw
      have hg : DGet H'' m (kV (.inr w)) (some (.ref (Dm w))) := by
        have z := Fz.get (⟨odm, e _ _ hm⟩ : Fz H'' m (rowM Dm)) (k := .inr w)
        rw [valV_row hwm] at z
        exact z
      refine ⟨_, rfl, _, rfl, m, _, rfl, hg, Dm w, T w, rfl, ((hT w hwm).ext e).rd, fun d hd => ?_⟩
      have xd := Ex.new (o := .dK (T w)) hd
      have h1d := xd _ _ h1
      have hlen : ((mW.take i).map fun w => ((.inr w : Key), V.ref (D w))).length ≤ 5 := by
        rw [List.length_map, List.length_take]
        exact Nat.min_le_right _ _
      refine ⟨_, rfl, _, rfl, a, _, rfl, DPut.k (k := .inr w) h1d (sz_lt (by omega)), ?_⟩
      have hk : ∀ p ∈ ((mW.take i).map fun w => ((.inr w : Key), V.ref (D w))), p.1 ≠ .inr w := fun p hp ep => by
        obtain ⟨u, hu, rfl⟩ := List.mem_map.mp hp
        exact hnew (by rw [← Sum.inr.inj ep]; exact hu)
      rw [putK_new hk]
      have nda : d ≠ a := fun z => by
        rw [z, h1] at hd
        cases hd
      have ndD : ∀ u ∈ mW.take i, D u ≠ d := fun u hu z => by
        have q := (h2 u hu).1
        rw [z, hd] at q
        cases q
      have hWi : mW.take (i + 1) = mW.take i ++ [w] := by rw [List.take_add_one, hw] <;> rfl
      have eD : ∀ u ∈ mW.take i, (if u = w then d else D u) = D u := fun u hu => if_neg fun z => hnew (by rw [← z]; exact hu)
      refine ⟨⟨_, rfl⟩, Ex.mut (e.trans xd) ha, fun u => if u = w then d else D u, ?_, fun u hu => ?_, fun u hu z hz2 nz => ?_⟩
      · rw [upd_same, hWi, List.map_append, List.map_singleton]
        dsimp only
        rw [if_pos rfl]
        congr 3
        exact List.map_congr_left fun u hu => by rw [eD u hu]
      · rw [hWi] at hu
        rcases List.mem_append.mp hu with hu | hu
        · obtain ⟨g1, g2, g3⟩ := h2 u hu
          dsimp only
          rw [eD u hu]
          exact ⟨by rw [upd_ne g3]; exact xd _ _ g1, g2, g3⟩
        · have eu := List.mem_singleton.mp hu
          subst eu
          dsimp only
          rw [if_pos rfl]
          exact ⟨by rw [upd_ne nda, upd_same], fresh_back e hd, nda⟩
      · rw [hWi] at hu hz2
        rcases List.mem_append.mp hu with hu1 | hu1 <;> rcases List.mem_append.mp hz2 with hz3 | hz3
        · show (if u = w then d else D u) ≠ (if z = w then d else D z)
          rw [eD u hu1, eD z hz3]
          exact h3 u hu1 z hz3 nz
        · show (if u = w then d else D u) ≠ (if z = w then d else D z)
          rw [eD u hu1, if_pos (List.mem_singleton.mp hz3)]
          exact ndD u hu1
        · show (if u = w then d else D u) ≠ (if z = w then d else D z)
          rw [eD z hz3, if_pos (List.mem_singleton.mp hu1)]
          exact Ne.symm (ndD z hz3)
        · exact absurd ((List.mem_singleton.mp hu1).trans (List.mem_singleton.mp hz3).symm) nz
    · obtain ⟨⟨v2, rfl⟩, e, D, h1, h2, h3⟩ := q
      have e5 : mW.take (rowM Dm).length = mW := rfl
      rw [e5] at h1 h2 h3
      exact ⟨_, rfl, k a D H' ha (fun w hw => (h2 w hw).2.1) e ⟨h1, fun w hw => (h2 w hw).1, fun w hw => (h2 w hw).2.2, h3⟩⟩
abbrev sPutM : Stmt := top 122
theorem scPutM : FnScope ["_law_m", "_law_word", "_law_thing", "_law_late", "_law_number"] ["_law_m", "_law_word", "_law_thing"] (defScope sPutM) := ⟨rfl, rfl, rfl, by decide +kernel, rfl, by decide +kernel, by decide +kernel⟩
theorem CopyM.get {H : Hp} {a : Addr} {D : Str → Addr} {T : Tabs5} (h : CopyM H a D T) {w : Str} (hw : w ∈ mW) : DGet H a (.str w) (some (.ref (D w))) := by
  have z := DGet.k (k := .inr w) h.row
  rw [valV_row hw] at z
  exact z
theorem CopyM.set {H : Hp} {a : Addr} {D : Str → Addr} {T : Tabs5} (h : CopyM H a D T) {w : Str} (hw : w ∈ mW) {kvs : List (Key × V)} : CopyM (upd H (D w) (.dK kvs)) a D (fun u => if u = w then kvs else T u) := by
  refine ⟨by rw [upd_ne (Ne.symm (h.na w hw))]; exact h.row, fun u hu => ?_, h.na, h.ne⟩
  by_cases e : u = w
  · subst e
    rw [upd_same, if_pos rfl]
  · rw [upd_ne (h.ne u hu w hw e), if_neg e]
    exact h.tab u hu
theorem lock5 {H H0 : Hp} {a : Addr} {D : Str → Addr} {T : Tabs5} {Q : VK} (h : CopyM H a D T) (e : Ex H0 H) (na : H0 a = none) (nD : ∀ w ∈ mW, H0 (D w) = none) (k : ∀ H', Ex H0 H' → (∀ b xs, H b = some (.tup xs) → H' b = some (.tup xs)) → RawM H' a T → Q (.ref a) H') {σ : L2.St} {t : TE} (ht : ∀ Q' : VK, Q' (.ref a) H → t σ H Q') :
    tFrzA (tFrzA (tFrzA (tFrzA (tFrzA (tFrzA t))))) σ H Q := by
  have m1 : ("lamp" : Str) ∈ mW := by decide +kernel
  have m2 : ("post" : Str) ∈ mW := by decide +kernel
  have m3 : ("pane" : Str) ∈ mW := by decide +kernel
  have m4 : ("look" : Str) ∈ mW := by decide +kernel
  have m5 : ("came" : Str) ∈ mW := by decide +kernel
  have n12 := h.ne _ m1 _ m2 (by decide +kernel)
  have n13 := h.ne _ m1 _ m3 (by decide +kernel)
  have n14 := h.ne _ m1 _ m4 (by decide +kernel)
  have n15 := h.ne _ m1 _ m5 (by decide +kernel)
  have n23 := h.ne _ m2 _ m3 (by decide +kernel)
  have n24 := h.ne _ m2 _ m4 (by decide +kernel)
  have n25 := h.ne _ m2 _ m5 (by decide +kernel)
  have n34 := h.ne _ m3 _ m4 (by decide +kernel)
  have n35 := h.ne _ m3 _ m5 (by decide +kernel)
  have n45 := h.ne _ m4 _ m5 (by decide +kernel)
  have a1 := h.na _ m1
  have a2 := h.na _ m2
  have a3 := h.na _ m3
  have a4 := h.na _ m4
  have a5 := h.na _ m5
  refine ht _ ⟨a, .dK (rowM D), h.row, True.intro, fun o0 => ⟨D "lamp", .dK (T "lamp"), (by rw [upd_ne a1]; exact h.tab _ m1), True.intro, fun o1 => ⟨D "post", .dK (T "post"), (by rw [upd_ne (Ne.symm n12), upd_ne a2]; exact h.tab _ m2), True.intro, fun o2 => ⟨D "pane", .dK (T "pane"), (by rw [upd_ne (Ne.symm n23), upd_ne (Ne.symm n13), upd_ne a3]; exact h.tab _ m3), True.intro, fun o3 => ⟨D "look", .dK (T "look"), (by rw [upd_ne (Ne.symm n34), upd_ne (Ne.symm n24), upd_ne (Ne.symm n14), upd_ne a4]; exact h.tab _ m4), True.intro, fun o4 => ⟨D "came", .dK (T "came"), (by rw [upd_ne (Ne.symm n45), upd_ne (Ne.symm n35), upd_ne (Ne.symm n25), upd_ne (Ne.symm n15), upd_ne a5]; exact h.tab _ m5), True.intro, fun o5 => ?_⟩⟩⟩⟩⟩⟩
  refine k _ (Ex.mut (Ex.mut (Ex.mut (Ex.mut (Ex.mut (Ex.mut e na) (nD _ m1)) (nD _ m2)) (nD _ m3)) (nD _ m4)) (nD _ m5)) (fun b xs hb => ?_) ⟨D, ⟨o0, ?_⟩, fun w hw => ?_⟩
  · have nb : b ≠ a := ne_of hb h.row (by intro z; cases z)
    have nt : ∀ w ∈ mW, b ≠ D w := fun w hw => ne_of hb (h.tab w hw) (by intro z; cases z)
    rw [upd_ne (nt _ m5), upd_ne (nt _ m4), upd_ne (nt _ m3), upd_ne (nt _ m2), upd_ne (nt _ m1), upd_ne nb]
    exact hb
  · rw [upd_ne (Ne.symm a5), upd_ne (Ne.symm a4), upd_ne (Ne.symm a3), upd_ne (Ne.symm a2), upd_ne (Ne.symm a1), upd_same]
  · simp only [mW, List.mem_cons, List.not_mem_nil, or_false] at hw
    rcases hw with rfl | rfl | rfl | rfl | rfl
    · exact ⟨o1, by rw [upd_ne n15, upd_ne n14, upd_ne n13, upd_ne n12, upd_same]⟩
    · exact ⟨o2, by rw [upd_ne n25, upd_ne n24, upd_ne n23, upd_same]⟩
    · exact ⟨o3, by rw [upd_ne n35, upd_ne n34, upd_same]⟩
    · exact ⟨o4, by rw [upd_ne n45, upd_same]⟩
    · exact ⟨o5, upd_same⟩
theorem ok_putM (F : FnP K "_law_put" sPutM f fd) (O__law_copy : Own P w K mg base 1 "_law_copy" ["_law_m"] spCopyM) : FnOk P w K mg base CX0 2 f fd ["_law_m", "_law_word", "_law_thing"] spPutM := by
  have nd := scPutM.nd
  refine F.ok scPutM (fun vs H Q E h => ?_) (fun cdv A outer s H vs Q E hr h => ⟨_, PSs.nox (pss_cons (ps_set (i := 3) nd rfl (.inl rfl) (Hs.pe_own O__law_copy hr (by first | decide | omega) (by rfl) (pa_cons (pv 0) pa_nil)))
  (pss_cons (ps_set (i := 4) nd rfl (.inl rfl) (pe_dget (Hs.un1 hr) (pe_dget (Hs.un1 hr) (pv 3) pe_str (fun _ _ => rfl)) (pv 1) (fun _ _ => rfl)))
  (pss_cons (ps_dput (Hs.un1 hr) (pe_dget (Hs.un1 hr) (pv 3) (pv 1) (fun _ _ => rfl)) (pv 4) (pv 2) (by rfl))
  (pss_cons (ps_dput (Hs.un1 hr) (pe_dget (Hs.un1 hr) (pv 3) pe_str (fun _ _ => rfl)) (pv 1) (pe_op op_add (pv 4) pe_int) (by rfl))
  (pss_one (ps_ret (Hs.pe_frzA (Hs.pe_frzA (Hs.pe_frzA (Hs.pe_frzA (Hs.pe_frzA (Hs.pe_frzA (pv 3))))))))))))), ?_⟩)
  · obtain ⟨m, T, w, n, v, rfl, _⟩ := h
    rfl
  · obtain ⟨m, T, wd, n, v, rfl, hM, hz, hw, hc, hn, k⟩ := h
    have m5 : ("came" : Str) ∈ mW := by decide +kernel
    refine ⟨_, rfl, m, T, rfl, hM, hz, fun a D H1 na nD e1 C1 => ?_⟩
    dsimp only [gName, List.set]
    refine ⟨_, rfl, a, _, rfl, C1.get m5, _, rfl, D "came", _, rfl, by have z := DGet.k (k := .inr wd) (C1.tab _ m5); rw [hn] at z; exact z, ?_⟩
    dsimp only [gName, List.set]
    refine ⟨_, rfl, _, rfl, _, rfl, a, _, rfl, C1.get hw, _, rfl, D wd, _, rfl, DPut.k (k := .inl n) (C1.tab _ hw) (sz_lt (by have := hz wd hw; omega)), ?_⟩
    have C2 := C1.set hw (kvs := putK (T wd) (.inl n) v)
    have e2 := Ex.mut (o := .dK (putK (T wd) (.inl n) v)) e1 (nD wd hw)
    generalize upd H1 (D wd) (.dK (putK (T wd) (.inl n) v)) = H2 at C2 e2 ⊢
    have tc := C2.tab _ m5
    have ec : (if ("came" : Str) = wd then putK (T wd) (.inl n) v else T "came") = T "came" := if_neg (Ne.symm hc)
    rw [ec] at tc
    refine ⟨_, rfl, _, _, rfl, rfl, _, rfl, a, _, rfl, C2.get m5, _, rfl, D "came", _, rfl, DPut.k (k := .inr wd) tc (sz_lt (by have := hz _ m5; omega)), ?_⟩
    have C3 := C2.set m5 (kvs := putK (T "came") (.inr wd) (.int (n + 1)))
    have e3 := Ex.mut (o := .dK (putK (T "came") (.inr wd) (.int (n + 1)))) e2 (nD _ m5)
    dsimp only [gName, List.set]
    show tFrzA (tFrzA (tFrzA (tFrzA (tFrzA (tFrzA (tVar 3)))))) _ _ Q
    exact lock5 C3 e3 na nD (fun H' e' _ r => k a H' na e' r) (fun Q' q => ⟨_, rfl, q⟩)
end
end Hs
namespace Hs
open PySem PySem.Spec PyProof.Rows L2 Evl
/-! ### a thing that is drawn, things mixed -/
def Deed.wd : Deed → Str
  | .lamp _ => "lamp"
  | .post _ => "post"
  | .pane _ _ _ => "pane"
def Deed.near : Deed → Prop
  | .lamp c => Near (c.1, c.2.1) ∧ triB c.2.2
  | .post B => Vb B ∧ NearB B
  | .pane a b z => (Near a ∧ Near b) ∧ b ≠ a ∧ z ∈ S8
theorem InFar.near {x y : Int} (hx : x.natAbs ≤ 1000000) (hy : y.natAbs ≤ 1000000) : InFar [x, y] := fun n hn => by
  simp only [List.mem_cons, List.not_mem_nil, or_false] at hn
  unfold absI
  rcases hn with rfl | rfl <;> split <;> omega
theorem far4 {a b c d : Int} (h1 : InFar [a, b]) (h2 : InFar [c, d]) : InFar [a, b, c, d] := fun n hn => by
  simp only [List.mem_cons, List.not_mem_nil, or_false] at hn
  rcases hn with rfl | rfl | rfl | rfl
  · exact h1 _ (by simp)
  · exact h1 _ (by simp)
  · exact h2 _ (by simp)
  · exact h2 _ (by simp)
theorem bd20 {x : Int} (h : x.natAbs ≤ 1000000) : Bd 20 x := Nat.lt_of_le_of_lt h (by decide)
theorem lit3 {r g u : Int} (h : triB (r, g, u)) : InLit 1000000 [r, g, u] := fun n hn => by
  simp only [List.mem_cons, List.not_mem_nil, or_false] at hn
  rcases hn with rfl | rfl | rfl
  · exact h.1
  · exact h.2.1
  · exact h.2.2
theorem Deed.near.good {D : Deed} (h : D.near) : D.good 20 := by
  cases D with
  | lamp c => exact ⟨InFar.near h.1.1 h.1.2, lit3 h.2⟩
  | post B => exact ⟨far4 (InFar.near h.2.1.1 h.2.1.2) (InFar.near h.2.2.1 h.2.2.2), h.1, ⟨bd20 h.2.1.1, bd20 h.2.1.2, bd20 h.2.2.1, bd20 h.2.2.2⟩⟩
  | pane a b z => exact ⟨⟨InFar.near h.1.1.1 h.1.1.2, InFar.near h.1.2.1 h.1.2.2⟩, (fun e => h.2.1 (Prod.ext e.1.symm e.2.symm)), good_of h.2.2, ⟨bd20 h.1.1.1, bd20 h.1.1.2⟩, bd20 h.1.2.1, bd20 h.1.2.2⟩
def spThingD : Sp := fun vs H Q _ => ∃ (b l g : Addr) (ns : List Int) (n : Nat) (w x y : Int) (wd : Str), vs = [.ref b, .ref g, .str wd] ∧ BagAt H b l ns n ∧ n < 700000 ∧ H g = some (.tup [.int w, .int x, .int y]) ∧ Grid w x y ∧ (wd = "lamp" ∨ wd = "post" ∨ wd = "pane") ∧
  ∀ (p : Addr) (D : Deed) (H' : Hp), D.near → D.wd = wd → H p = none → H' p = some (.tup D.vals) → BagAt H' b l ns (n + 10) → But H H' b → Q (.ref p) H'
def spMixed (K : PySem.W.Frag) : Sp := fun vs H Q _ => ∃ (b l a : Addr) (ns : List Int) (n : Nat) (xs : List V), vs = [.ref b, .ref a] ∧ BagAt H b l ns n ∧ n < 700000 ∧ SqL K H a xs ∧ xs.length ≤ 100 ∧
  ∀ (p : Addr) (ys : List V) (H' : Hp), ys.Perm xs → H p = none → H' p = some (.lst ys) → BagAt H' b l ns (n + xs.length) → But H H' b → Q (.ref p) H'
theorem erase_perm {zs : List V} {k : Nat} {y : V} (h : zs[k]? = some y) : (y :: zs.eraseIdx k).Perm zs := by
  induction zs generalizing k with
  | nil => cases h
  | cons a r ih =>
    cases k with
    | zero =>
      cases h
      exact List.Perm.refl _
    | succ k =>
      have h2 : r[k]? = some y := h
      exact (List.Perm.swap a y _).trans ((ih h2).cons a)
theorem But.upd2 {H H1 : Hp} {b a : Addr} {u : HO} (x : But H H1 b) (h : H a = none) : But H (L2.upd H1 a u) b := fun c o hc nb => by
  rw [upd_ne (ne_of_none hc h)]
  exact x c o hc nb
section
variable {P : Program} {w : World} {K : PySem.W.Frag} {mg : Str → Option Value} {base : Heap} {f : Addr} {fd : FuncData}
abbrev sMixed : Stmt := top 107
theorem scMixed : FnScope ["_law_bag_here", "_law_some", "_law_rest", "_law_found", "_law_k"] ["_law_bag_here", "_law_some"] (defScope sMixed) := ⟨rfl, rfl, rfl, by decide +kernel, rfl, by decide +kernel, by decide +kernel⟩
theorem ok_mixed (F : FnP K "_law_mixed" sMixed f fd) (O__law_pull : Own P w K mg base 1 "_law_pull" ["_law_bag_here", "_law_many"] spPull) (g_len : mg "len" = none) (g_range : mg "range" = none) (g_list : mg "list" = none) : FnOk P w K mg base CX0 2 f fd ["_law_bag_here", "_law_some"] (spMixed K) := by
  have nd := scMixed.nd
  refine F.ok scMixed (fun vs H Q E h => ?_) (fun cdv A outer s H vs Q E hr h => ⟨_, PSs.nox (pss_cons (ps_set (i := 2) nd rfl (.inl rfl) (pe_callTy (r := Evl.rListS K) call_list_of (by rfl) g_list (by decide +kernel) (pa_cons (pv 1) pa_nil)))
  (pss_cons (ps_set (i := 3) nd rfl (.inl rfl) (pe_lst pa_nil))
  (pss_cons (ps_for PassesOwn.never rfl (pi_range1 (by rfl) g_range (pa_cons (pe_callB (r := Evl.rLenS K) call_len_seq (by rfl) g_len PySem.boot_len (pa_cons (pv 2) pa_nil)) pa_nil)) (pg_name (i := 4) nd rfl (.inl rfl)) (pss_one (ps_expr (pe_bm PySem.F.plainAttrs_list PySem.F.slot_list_append PySem.F.type_list_append mt_append (pv 3) (pa_cons (pe_bm PySem.F.plainAttrs_list PySem.F.slot_list_pop PySem.F.type_list_pop mt_popAt (pv 2) (pa_cons (Hs.pe_own O__law_pull hr (by first | decide | omega) (by rfl) (pa_cons (pv 0) (pa_cons (pe_callB (r := Evl.rLenS K) call_len_seq (by rfl) g_len PySem.boot_len (pa_cons (pv 2) pa_nil)) pa_nil))) pa_nil)) pa_nil)))))
  (pss_one (ps_ret (pv 3)))))), ?_⟩)
  · obtain ⟨b, l, a, ns, n, xs, rfl, _⟩ := h
    rfl
  · obtain ⟨b, l, a, ns, n, xs, rfl, B, hn, hx, hz, k⟩ := h
    refine q_asgL (el_list (ev_var rfl) hx) fun r H1 nr e1 hr1 => ?_
    refine q_asgL (xs := []) (el_lst ea_nil (by simp)) fun fo H2 nfo e2 hfo => ?_
    have nrb : r ≠ b := bag_ne B nr
    have nrl : r ≠ l := Ne.symm (ne_of_none B.ls nr)
    have B1 := B.ext (m := n) e1 (Nat.le_refl _)
    have nfb : fo ≠ b := bag_ne B1 nfo
    have nfl : fo ≠ l := Ne.symm (ne_of_none B1.ls nfo)
    have nrf : r ≠ fo := ne_of_none hr1 nfo
    have nfo0 : H fo = none := fresh_back e1 nfo
    dsimp only [List.set]
    refine q_forR1 (n := (xs.length : Int)) (ea_cons (ev_len (ev_var rfl) (sq_of (e2 _ _ hr1))) ea_nil) ⟨by omega, by omega⟩ (fun i σ' H' => ∃ (v : Option V) (ys zs : List V), σ' = [some (.ref b), some (.ref a), some (.ref r), some (.ref fo), v] ∧ H' r = some (.lst zs) ∧ H' fo = some (.lst ys) ∧ (ys ++ zs).Perm xs ∧ ys.length = i ∧ BagAt H' b l ns (n + i) ∧ But H H' b) ?_ ?_ ?_
    · intro H3 e3
      exact ⟨none, [], xs, rfl, (e2.trans e3) _ _ hr1, e3 _ _ hfo, List.Perm.refl _, rfl, (B1.ext e2 (Nat.le_refl _)).ext e3 (Nat.le_refl _), But.of ((e1.trans e2).trans e3)⟩
    · rintro i σ' H' hi ⟨v, ys, zs, rfl, hr', hf', hp, hl, Bi, bi⟩
      have hi2 : i < xs.length := by omega
      have hpl := hp.length_eq
      rw [List.length_append] at hpl
      have hzl : 0 < zs.length := by omega
      refine ⟨_, rfl, .inl ⟨rfl, _, sq_of hf'⟩, _, rfl, .inl ⟨rfl, _, sq_of hr'⟩, _, rfl, _, rfl, r, zs, rfl, .inl (sq_of hr'), b, l, ns, n + i, _, rfl, Bi, by omega, by omega, by omega, fun u H3 u0 u1 B3 b3 => ?_⟩
      have hr3 := b3 _ _ hr' nrb
      have hf3 := b3 _ _ hf' nfb
      have hui : u.toNat < zs.length := by omega
      have hsq : seqIndex? u zs.length = some u.toNat := by
        have e : ((u.toNat : Nat) : Int) = u := by omega
        have q := (ixN_seq (ixN_nat hui)).1
        rw [e] at q
        exact q
      refine ⟨r, zs, u, u.toNat, _, rfl, rfl, hr3, by omega, by omega, hsq, List.getElem?_eq_getElem hui, ?_⟩
      have hf4 : upd H3 r (.lst (zs.eraseIdx u.toNat)) fo = some (.lst ys) := by
        rw [upd_ne (Ne.symm nrf)]
        exact hf3
      refine ⟨fo, ys, _, rfl, rfl, hf4, sz_lt (by omega), ?_⟩
      refine ⟨_, ys ++ [zs[u.toNat]], zs.eraseIdx u.toNat, rfl, ?_, upd_same, ?_, by rw [List.length_append, hl] <;> rfl, ?_, ?_⟩
      · rw [upd_ne nrf, upd_same]
      · rw [List.append_assoc]
        exact ((erase_perm (List.getElem?_eq_getElem hui)).append_left ys).trans hp
      · exact bag_upd (bag_upd (B3.ext (Ex.refl _) (by omega)) (Ne.symm nrb) (Ne.symm nrl)) (Ne.symm nfb) (Ne.symm nfl)
      · exact ((bi.trans b3).upd2 nr).upd2 nfo0
    · rintro σ' H' ⟨v, ys, zs, rfl, hr', hf', hp, hl, Bi, bi⟩
      have hpl := hp.length_eq
      rw [List.length_append] at hpl
      have ez : zs = [] := List.length_eq_zero_iff.mp (by omega)
      rw [ez, List.append_nil] at hp
      refine s_ret (ev_var rfl) fun H3 e3 => k fo ys H3 hp nfo0 (e3 _ _ hf') (Bi.ext e3 (by omega)) (bi.ex e3)
abbrev sThingD : Stmt := top 117
theorem scThingD : FnScope ["_law_bag_here", "_law_grid_here", "_law_word", "_law_a"] ["_law_bag_here", "_law_grid_here", "_law_word"] (defScope sThingD) := ⟨rfl, rfl, rfl, by decide +kernel, rfl, by decide +kernel, by decide +kernel⟩
theorem ok_thingD (F : FnP K "_law_thing_deed" sThingD f fd) (O__law_spot : Own P w K mg base 2 "_law_spot" ["_law_bag_here", "_law_grid_here"] spSpot) (O__law_tint : Own P w K mg base 2 "_law_tint" ["_law_bag_here"] spTint) (O__law_block : Own P w K mg base 3 "_law_block" ["_law_bag_here", "_law_grid_here"] spBlock) (O__law_other_spot : Own P w K mg base 3 "_law_other_spot" ["_law_bag_here", "_law_grid_here", "_law_spot_here"] spOther) (O__law_letters : Own P w K mg base 2 "_law_letters" ["_law_bag_here"] spLetters) : FnOk P w K mg base CX0 4 f fd ["_law_bag_here", "_law_grid_here", "_law_word"] spThingD := by
  have nd := scThingD.nd
  refine F.ok scThingD (fun vs H Q E h => ?_) (fun cdv A outer s H vs Q E hr h => ⟨_, PSs.nox (pss_cons (ps_if (pt_cmpR op_eq (pv 2) pe_str (nomark _)) (pss_one (ps_ret (pe_op (r := rCatT K) op_catT (pe_op (r := rCatT K) op_catT (pe_tup (pa_cons pe_str pa_nil)) (Hs.pe_own O__law_spot hr (by first | decide | omega) (by rfl) (pa_cons (pv 0) (pa_cons (pv 1) pa_nil)))) (Hs.pe_own O__law_tint hr (by first | decide | omega) (by rfl) (pa_cons (pv 0) pa_nil))))) pss_nil)
  (pss_cons (ps_if (pt_cmpR op_eq (pv 2) pe_str (nomark _)) (pss_one (ps_ret (pe_op (r := rCatT K) op_catT (pe_tup (pa_cons pe_str pa_nil)) (Hs.pe_own O__law_block hr (by first | decide | omega) (by rfl) (pa_cons (pv 0) (pa_cons (pv 1) pa_nil)))))) pss_nil)
  (pss_cons (ps_set (i := 3) nd rfl (.inl rfl) (Hs.pe_own O__law_spot hr (by first | decide | omega) (by rfl) (pa_cons (pv 0) (pa_cons (pv 1) pa_nil))))
  (pss_one (ps_ret (pe_op (r := rCatT K) op_catT (pe_op (r := rCatT K) op_catT (pe_op (r := rCatT K) op_catT (pe_tup (pa_cons pe_str pa_nil)) (pv 3)) (Hs.pe_own O__law_other_spot hr (by first | decide | omega) (by rfl) (pa_cons (pv 0) (pa_cons (pv 1) (pa_cons (pv 3) pa_nil))))) (pe_tup (pa_cons (Hs.pe_own O__law_letters hr (by first | decide | omega) (by rfl) (pa_cons (pv 0) pa_nil)) pa_nil)))))))), ?_⟩)
  · obtain ⟨b, l, g, ns, n, w, x, y, wd, rfl, _⟩ := h
    rfl
  · obtain ⟨b, l, g, ns, n, w, x, y, wd, rfl, B, hn, hg, G, hw, k⟩ := h
    refine q_when (b := decide (wd = "lamp")) (et_is (et_test (ev_op (ev_var rfl) ev_c (rv_eq rfl))) (by by_cases e : wd = "lamp" <;> simp [e])) (fun ht H1 e1 => ?_) (fun ht H1 e1 => ?_)
    · have ew := of_decide_eq_true ht
      refine ⟨sz_of (by simp), fun t ht => ⟨_, rfl, _, rfl, b, l, g, ns, n, w, x, y, rfl, (B.ext e1 (Nat.le_refl _)).ext (Ex.new ht) (Nat.le_refl _), by omega, (e1.trans (Ex.new ht)) _ _ hg, G, fun p z H2 hz np hp B2 b2 => ?_⟩⟩
      have xt := Ex.new (o := .tup [V.str "lamp"]) ht
      have t2 := b2.tup ((B.ext e1 (Nat.le_refl _)).ext xt (Nat.le_refl _)) (upd_same (H := H1) (a := t) (o := .tup [V.str "lamp"]))
      refine ⟨t, p, _, _, rfl, rfl, st_of t2, st_of hp, by simp, by show 1 + 2 ≤ sizeLine; decide, (fun z => by cases z), fun _ q hq => ?_⟩
      have xq := Ex.new (o := .tup ([V.str "lamp"] ++ prV z)) hq
      refine ⟨_, rfl, b, l, ns, n + 2, rfl, B2.ext xq (Nat.le_refl _), by omega, fun r c H3 hc nr hr3 B3 b3 => ?_⟩
      have q3 := b3.tup (B2.ext xq (Nat.le_refl _)) (upd_same (H := H2) (a := q) (o := .tup ([V.str "lamp"] ++ prV z)))
      refine ⟨q, r, _, _, rfl, rfl, st_of q3, st_of hr3, by simp, by show 3 + 3 ≤ sizeLine; decide, (fun z => by cases z), fun _ u hu => ?_⟩
      have bA : But H H3 b := (((But.of (e1.trans xt)).trans b2).ex xq).trans b3
      exact k u (.lamp (z.1, z.2, c)) _ ⟨hz, hc⟩ ew.symm (bA.fresh B3 hu) upd_same (B3.ext (Ex.new hu) (by omega)) (bA.ex (Ex.new hu))
    · have ew : wd ≠ "lamp" := of_decide_eq_false ht
      refine q_when (b := decide (wd = "post")) (et_is (et_test (ev_op (ev_var rfl) ev_c (rv_eq rfl))) (by by_cases e : wd = "post" <;> simp [e])) (fun ht H2 e2 => ?_) (fun ht H2 e2 => ?_)
      · have ewd := of_decide_eq_true ht
        have e12 := e1.trans e2
        refine ⟨sz_of (by simp), fun t ht => ⟨_, rfl, _, rfl, b, l, g, ns, n, w, x, y, rfl, (B.ext e12 (Nat.le_refl _)).ext (Ex.new ht) (Nat.le_refl _), by omega, (e12.trans (Ex.new ht)) _ _ hg, G, fun p Bk H3 hv hb hp B3 b3 => ?_⟩⟩
        have xt := Ex.new (o := .tup [V.str "post"]) ht
        have t3 := b3.tup ((B.ext e12 (Nat.le_refl _)).ext xt (Nat.le_refl _)) (upd_same (H := H2) (a := t) (o := .tup [V.str "post"]))
        refine ⟨t, p, _, _, rfl, rfl, st_of t3, st_of hp, by simp, by show 1 + 4 ≤ sizeLine; decide, (fun z => by cases z), fun _ u hu => ?_⟩
        have bA : But H H3 b := (But.of (e12.trans xt)).trans b3
        exact k u (.post Bk) _ ⟨hv, hb⟩ ewd.symm (bA.fresh B3 hu) upd_same (B3.ext (Ex.new hu) (by omega)) (bA.ex (Ex.new hu))
      · have ewd : wd = "pane" := by
          have : wd ≠ "post" := of_decide_eq_false ht
          rcases hw with h | h | h
          · exact absurd h ew
          · exact absurd h this
          · exact h
        have e12 := e1.trans e2
        refine ⟨_, rfl, _, rfl, b, l, g, ns, n, w, x, y, rfl, B.ext e12 (Nat.le_refl _), by omega, e12 _ _ hg, G, fun p1 z1 H3 hz1 np1 hp1 B3 b3 => ?_⟩
        dsimp only [gName, List.set]
        refine ⟨sz_of (by simp), fun t ht => ⟨_, rfl, t, p1, _, _, rfl, rfl, st_of upd_same, st_of ((Ex.new ht) _ _ hp1), by simp, by show 1 + 2 ≤ sizeLine; decide, (fun z => by cases z), fun _ q hq => ?_⟩⟩
        have x4 := (Ex.new (o := .tup [V.str "pane"]) ht).trans (Ex.new (o := .tup ([V.str "pane"] ++ prV z1)) hq)
        have q4 := upd_same (H := upd H3 t (.tup [V.str "pane"])) (a := q) (o := .tup ([V.str "pane"] ++ prV z1))
        have g3 := b3.tup (B.ext e12 (Nat.le_refl _)) (e12 _ _ hg)
        refine ⟨_, rfl, _, rfl, _, rfl, b, l, g, p1, ns, n + 2, w, x, y, z1, rfl, B3.ext x4 (Nat.le_refl _), by omega, x4 _ _ g3, G, x4 _ _ hp1, hz1, fun p2 z2 H5 hz2 ne2 np2 hp2 B5 b5 => ?_⟩
        have q5 := b5.tup (B3.ext x4 (Nat.le_refl _)) q4
        refine ⟨q, p2, _, _, rfl, rfl, st_of q5, st_of hp2, by simp, by show 3 + 2 ≤ sizeLine; decide, (fun z => by cases z), fun _ r hr => ?_⟩
        have x6 := Ex.new (o := .tup ([V.str "pane"] ++ prV z1 ++ prV z2)) hr
        have r6 := upd_same (H := H5) (a := r) (o := .tup ([V.str "pane"] ++ prV z1 ++ prV z2))
        have B6 := B5.ext x6 (Nat.le_refl _)
        refine ⟨_, rfl, b, l, ns, n + 4, rfl, B6, by omega, fun zz H7 hzz B7 b7 => ⟨sz_of (by simp), fun s hs => ?_⟩⟩
        have x8 := Ex.new (o := .tup [V.str zz]) hs
        refine ⟨r, s, _, _, rfl, rfl, st_of (x8 _ _ (b7.tup B6 r6)), st_of upd_same, by simp, by show 5 + 1 ≤ sizeLine; decide, (fun z => by cases z), fun _ u hu => ?_⟩
        have bA : But H (upd H7 s (.tup [V.str zz])) b := ((((((But.of e12).trans b3).ex x4).trans b5).ex x6).trans b7).ex x8
        have B8 := B7.ext x8 (Nat.le_refl _)
        exact k u (.pane z1 z2 zz) _ ⟨⟨hz1, hz2⟩, ne2, hzz⟩ ewd.symm (bA.fresh B8 hu) upd_same (B8.ext (Ex.new hu) (by omega)) (bA.ex (Ex.new hu))
end
end Hs
namespace Hs
open PySem PySem.Spec PyProof.Rows L2 Evl
/-! ### the law's own model of a floor -/
abbrev LM := List Chc × Int × Int × Bool
def LampM (K : PySem.W.Frag) (H : Hp) (v : V) (l : LM) : Prop := ∃ (th ch : Addr) (ps : List Addr), v = .ref th ∧ SqT K H th [.ref ch, .int l.2.1, .int l.2.2.1, .bl l.2.2.2] ∧ SqT K H ch (ps.map V.ref) ∧ ps.length = l.1.length ∧ ∀ (i : Nat) (p : Addr) (c : Chc), ps[i]? = some p → l.1[i]? = some c → SqT K H p (chv c)
def BlkM (K : PySem.W.Frag) (n : Nat) (H : Hp) (v : V) (B : Blk) : Prop := ∃ p, v = .ref p ∧ Bl K n H p B
def PanM (K : PySem.W.Frag) (n : Nat) (H : Hp) (v : V) (N : Pan) : Prop := ∃ p a b, v = .ref p ∧ SqT K H p [.ref a, .ref b, .str N.2.2] ∧ Pl K n H a N.1 ∧ Pl K n H b N.2.1
def TabA {α : Type} (G : V → α → Prop) (ts : List (Key × V)) (xs : List (Int × α)) : Prop := ts.length = xs.length ∧ ∀ (i : Nat) (k : Key) (v : V) (x : Int × α), ts[i]? = some (k, v) → xs[i]? = some x → k = .inl x.1 ∧ G v x.2
theorem TabA.mono {α : Type} {G G' : V → α → Prop} {ts : List (Key × V)} {xs : List (Int × α)} (h : TabA G ts xs) (g : ∀ v x, G v x → G' v x) : TabA G' ts xs := ⟨h.1, fun i k v x h1 h2 => ⟨(h.2 i k v x h1 h2).1, g _ _ (h.2 i k v x h1 h2).2⟩⟩
theorem Kp.pl {K : PySem.W.Frag} {n : Nat} {H H' : Hp} {p : Addr} {x : Pt} (e : Kp H H') (h : Pl K n H p x) : Pl K n H' p x := ⟨e.sqt h.1, h.2⟩
theorem Kp.lampM {K : PySem.W.Frag} {H H' : Hp} {v : V} {l : LM} (e : Kp H H') (h : LampM K H v l) : LampM K H' v l := let ⟨th, ch, ps, h1, h2, h3, h4, h5⟩ := h; ⟨th, ch, ps, h1, e.sqt h2, e.sqt h3, h4, fun i p c g1 g2 => e.sqt (h5 i p c g1 g2)⟩
theorem Kp.blkM {K : PySem.W.Frag} {n : Nat} {H H' : Hp} {v : V} {B : Blk} (e : Kp H H') (h : BlkM K n H v B) : BlkM K n H' v B := let ⟨p, h1, h2⟩ := h; ⟨p, h1, e.sqt h2.1, h2.2⟩
theorem Kp.panM {K : PySem.W.Frag} {n : Nat} {H H' : Hp} {v : V} {N : Pan} (e : Kp H H') (h : PanM K n H v N) : PanM K n H' v N := let ⟨p, a, b, h1, h2, h3, h4⟩ := h; ⟨p, a, b, h1, e.sqt h2, e.pl h3, e.pl h4⟩
theorem TabA.snoc {α : Type} {G : V → α → Prop} {ts : List (Key × V)} {xs : List (Int × α)} (h : TabA G ts xs) {k : Int} {v : V} {x : α} (g : G v x) : TabA G (ts ++ [(.inl k, v)]) (xs ++ [(k, x)]) := by
  refine ⟨by rw [List.length_append, List.length_append, h.1] <;> rfl, fun i k' v' x' h1 h2 => ?_⟩
  by_cases hi : i < ts.length
  · rw [List.getElem?_append_left hi] at h1
    rw [List.getElem?_append_left (by rw [← h.1]; exact hi)] at h2
    exact h.2 i k' v' x' h1 h2
  · rw [List.getElem?_append_right (by omega)] at h1
    rw [List.getElem?_append_right (by rw [← h.1]; omega), ← h.1] at h2
    have e0 : i - ts.length = 0 := by
      have : i - ts.length < 1 := (List.getElem?_eq_some_iff.mp h1).1
      omega
    rw [e0] at h1 h2
    cases h1
    cases h2
    exact ⟨rfl, g⟩
theorem TabA.keys {α : Type} {G : V → α → Prop} {ts : List (Key × V)} {xs : List (Int × α)} (h : TabA G ts xs) : ts.map (·.1) = (xs.map (·.1)).map Sum.inl := by
  refine List.ext_getElem (by simp [h.1]) fun i h1 h2 => ?_
  have hi : i < ts.length := by simpa using h1
  have hx : i < xs.length := by rw [← h.1]; exact hi
  rw [List.getElem_map, List.getElem_map, List.getElem_map]
  exact (h.2 i ts[i].1 ts[i].2 xs[i] (List.getElem?_eq_getElem hi) (List.getElem?_eq_getElem hx)).1
/-- numbers that rise, all below the next one -/
def Up {α : Type} (xs : List (Int × α)) (c : Int) : Prop := (xs.map (·.1)).Pairwise (· < ·) ∧ ∀ x ∈ xs, x.1 < c
theorem Up.snoc {α : Type} {xs : List (Int × α)} {c : Int} (h : Up xs c) {x : α} : Up (xs ++ [(c, x)]) (c + 1) := by
  refine ⟨?_, fun y hy => ?_⟩
  · rw [List.map_append, List.map_singleton, List.pairwise_append]
    refine ⟨h.1, List.pairwise_singleton _ _, fun a ha b hb => ?_⟩
    obtain ⟨z, hz, rfl⟩ := List.mem_map.mp ha
    rw [List.mem_singleton.mp hb]
    exact h.2 z hz
  · rcases List.mem_append.mp hy with q | q
    · have := h.2 y q
      omega
    · rw [List.mem_singleton.mp q]
      show c < c + 1
      omega
theorem TabA.put {α : Type} {G : V → α → Prop} {ts : List (Key × V)} {xs : List (Int × α)} {c : Int} (h : TabA G ts xs) (u : Up xs c) {v : V} {x : α} (g : G v x) : TabA G (putK ts (.inl c) v) (xs ++ [(c, x)]) := by
  rw [putK_new]
  · exact h.snoc g
  · intro p hp e
    have hm : p.1 ∈ ts.map (·.1) := List.mem_map.mpr ⟨p, hp, rfl⟩
    rw [h.keys, e] at hm
    obtain ⟨y, hy, e2⟩ := List.mem_map.mp hm
    obtain ⟨z, hz, rfl⟩ := List.mem_map.mp hy
    have e3 : z.1 = c := Sum.inl.inj e2
    have := u.2 z hz
    omega
structure Md where
  lamps : List (Int × LM)
  posts : List (Int × Blk)
  panes : List (Int × Pan)
  looks : List (Key × V)
  cl : Int
  cp : Int
  cn : Int
  ck : Int
def comC (a b c d : Int) : List (Key × V) := [(.inr "lamp", .int a), (.inr "post", .int b), (.inr "pane", .int c), (.inr "look", .int d)]
structure MdA (K : PySem.W.Frag) (n : Nat) (H : Hp) (m : Addr) (M : Md) : Prop where
  ex : ∃ T : Tabs5, RawM H m T ∧ T "came" = comC M.cl M.cp M.cn M.ck ∧ T "look" = M.looks ∧ TabA (LampM K H) (T "lamp") M.lamps ∧ TabA (BlkM K n H) (T "post") M.posts ∧ TabA (PanM K n H) (T "pane") M.panes
  ul : Up M.lamps M.cl
  up : Up M.posts M.cp
  un : Up M.panes M.cn
  few : M.lamps.length ≤ 30 ∧ M.posts.length ≤ 30 ∧ M.panes.length ≤ 30 ∧ M.looks.length ≤ 100
theorem MdA.keep {K : PySem.W.Frag} {n : Nat} {H H' : Hp} {m : Addr} {M : Md} (h : MdA K n H m M) (e : Kp H H') : MdA K n H' m M := by
  obtain ⟨T, h1, h2, h3, h4, h5, h6⟩ := h.ex
  exact ⟨⟨T, e.raw h1, h2, h3, h4.mono fun _ _ => e.lampM, h5.mono fun _ _ => e.blkM, h6.mono fun _ _ => e.panM⟩, h.ul, h.up, h.un, h.few⟩
theorem MdA.ext {K : PySem.W.Frag} {n : Nat} {H H' : Hp} {m : Addr} {M : Md} (h : MdA K n H m M) (e : Ex H H') : MdA K n H' m M := h.keep (Kp.of e)
def Md.new : Md := ⟨[], [], [], [], 1, 1, 1, 1⟩
theorem MdA.new {K : PySem.W.Frag} {n : Nat} {H : Hp} {m : Addr} {T : Tabs5} (h : RawM H m T) (h0 : ∀ w : Str, w ≠ "came" → T w = []) (hc : T "came" = comingV) : MdA K n H m Md.new := by
  have e1 := h0 "lamp" (by decide +kernel)
  have e2 := h0 "post" (by decide +kernel)
  have e3 := h0 "pane" (by decide +kernel)
  have e4 := h0 "look" (by decide +kernel)
  refine ⟨⟨T, h, hc, e4, ?_, ?_, ?_⟩, ⟨List.Pairwise.nil, fun x hx => by cases hx⟩, ⟨List.Pairwise.nil, fun x hx => by cases hx⟩, ⟨List.Pairwise.nil, fun x hx => by cases hx⟩, ⟨Nat.zero_le _, Nat.zero_le _, Nat.zero_le _, Nat.zero_le _⟩⟩
  · rw [e1]
    exact ⟨rfl, fun i k v x h1 _ => by cases h1⟩
  · rw [e2]
    exact ⟨rfl, fun i k v x h1 _ => by cases h1⟩
  · rw [e3]
    exact ⟨rfl, fun i k v x h1 _ => by cases h1⟩
def Md.put (M : Md) : Deed → Md
  | .lamp c => { M with lamps := M.lamps ++ [(M.cl, ([c], 0, 0, true))], cl := M.cl + 1 }
  | .post B => { M with posts := M.posts ++ [(M.cp, B)], cp := M.cp + 1 }
  | .pane a b z => { M with panes := M.panes ++ [(M.cn, (a, b, z))], cn := M.cn + 1 }
def spAfter (K : PySem.W.Frag) (n : Nat) : Sp := fun vs H Q _ => ∃ (m d : Addr) (M : Md) (D : Deed), vs = [.ref m, .ref d] ∧ MdA K n H m M ∧ SqT K H d D.vals ∧ D.good n ∧ M.lamps.length < 30 ∧ M.posts.length < 30 ∧ M.panes.length < 30 ∧ ∀ a H', H a = none → Ex H H' → MdA K n H' a (M.put D) → Q (.ref a) H'
theorem MdA.len {K : PySem.W.Frag} {n : Nat} {H : Hp} {m : Addr} {M : Md} (h : MdA K n H m M) {T : Tabs5} (h2 : T "came" = comC M.cl M.cp M.cn M.ck) (h3 : T "look" = M.looks) (h4 : TabA (LampM K H) (T "lamp") M.lamps) (h5 : TabA (BlkM K n H) (T "post") M.posts) (h6 : TabA (PanM K n H) (T "pane") M.panes) : ∀ w ∈ mW, (T w).length ≤ 1000 := fun w hw => by
  obtain ⟨f1, f2, f3, f4⟩ := h.few
  simp only [mW, List.mem_cons, List.not_mem_nil, or_false] at hw
  rcases hw with rfl | rfl | rfl | rfl | rfl
  · rw [h4.1]
    omega
  · rw [h5.1]
    omega
  · rw [h6.1]
    omega
  · rw [h3]
    omega
  · rw [h2]
    show 4 ≤ 1000
    decide
section
variable {P : Program} {w : World} {K : PySem.W.Frag} {mg : Str → Option Value} {base : Heap} {f : Addr} {fd : FuncData} {n : Nat}
abbrev sAfter : Stmt := top 124
theorem scAfter : FnScope ["_law_m", "_law_deed", "_law_word"] ["_law_m", "_law_deed"] (defScope sAfter) := ⟨rfl, rfl, rfl, by decide +kernel, rfl, by decide +kernel, by decide +kernel⟩
theorem putM_at {T : Tabs5} {wd : Str} {n : Int} {v : V} : putM T wd n v "came" = putK (T "came") (.inr wd) (.int (n + 1)) := if_pos rfl
theorem putM_own {T : Tabs5} {wd : Str} {n : Int} {v : V} (h : wd ≠ "came") : putM T wd n v wd = putK (T wd) (.inl n) v := by
  unfold putM
  rw [if_neg h, if_pos rfl]
theorem putM_ne {T : Tabs5} {wd u : Str} {n : Int} {v : V} (h : u ≠ "came") (h2 : u ≠ wd) : putM T wd n v u = T u := by
  unfold putM
  rw [if_neg h, if_neg h2]
theorem ok_after (F : FnP K "_law_after_put" sAfter f fd) (O__law_put : Own P w K mg base 2 "_law_put" ["_law_m", "_law_word", "_law_thing"] spPutM) (g_tuple : mg "tuple" = none) : FnOk P w K mg base CX0 3 f fd ["_law_m", "_law_deed"] (spAfter K n) := by
  have nd := scAfter.nd
  refine F.ok scAfter (fun vs H Q E h => ?_) (fun cdv A outer s H vs Q E hr h => ⟨_, PSs.nox (pss_cons (ps_set (i := 2) nd rfl (.inl rfl) (pe_ix (r := rIxT K) ix_tup (pv 1) pe_int (fun _ _ => rfl)))
  (pss_cons (ps_if (pt_cmpR op_in_seq (pv 2) (pe_tup (pa_cons pe_str (pa_cons pe_str pa_nil))) (by rfl)) (pss_one (ps_ret (Hs.pe_own O__law_put hr (by first | decide | omega) (by rfl) (pa_cons (pv 0) (pa_cons pe_str (pa_cons (pe_tup (pa_cons (pe_ifExp (pt_cmpR op_eq (pv 2) pe_str (nomark _)) (pe_callTy call_tuple_of (by rfl) g_tuple (by decide +kernel) (pa_cons (pe_ix (r := rIxT K) ix_tup (pv 1) pe_int (fun _ _ => rfl)) pa_nil)) (pe_tup (pa_cons (pe_slice sl_tup (pv 1) (po_some pe_int) po_none) pa_nil))) (pa_cons pe_int (pa_cons pe_int (pa_cons pe_bl pa_nil))))) pa_nil)))))) pss_nil)
  (pss_cons (ps_if (pt_cmpR op_eq (pv 2) pe_str (nomark _)) (pss_one (ps_ret (Hs.pe_own O__law_put hr (by first | decide | omega) (by rfl) (pa_cons (pv 0) (pa_cons pe_str (pa_cons (pe_slice sl_tup (pv 1) (po_some pe_int) po_none) pa_nil)))))) pss_nil)
  (pss_one (ps_ret (Hs.pe_own O__law_put hr (by first | decide | omega) (by rfl) (pa_cons (pv 0) (pa_cons pe_str (pa_cons (pe_tup (pa_cons (pe_slice sl_tup (pv 1) (po_some pe_int) (po_some pe_int)) (pa_cons (pe_slice sl_tup (pv 1) (po_some pe_int) (po_some pe_int)) (pa_cons (pe_ix (r := rIxT K) ix_tup (pv 1) pe_int (fun _ _ => rfl)) pa_nil)))) pa_nil))))))))), ?_⟩)
  · obtain ⟨m, d, M, D, rfl, _⟩ := h
    rfl
  · obtain ⟨m, d, M, D, rfl, hM, hd, hg, l1, l2, l3, k⟩ := h
    obtain ⟨T, hR, hc, hk, hl, hp, hn⟩ := hM.ex
    have hz := hM.len hc hk hl hp hn
    have ul := hM.ul
    have upp := hM.up
    have un := hM.un
    obtain ⟨f1, f2, f3, f4⟩ := hM.few
    have nlp : ("lamp" : Str) ≠ "post" := by decide +kernel
    have nln : ("lamp" : Str) ≠ "pane" := by decide +kernel
    have nlk : ("lamp" : Str) ≠ "look" := by decide +kernel
    have nlc : ("lamp" : Str) ≠ "came" := by decide +kernel
    have npn : ("post" : Str) ≠ "pane" := by decide +kernel
    have npk : ("post" : Str) ≠ "look" := by decide +kernel
    have npc : ("post" : Str) ≠ "came" := by decide +kernel
    have nnk : ("pane" : Str) ≠ "look" := by decide +kernel
    have nnc : ("pane" : Str) ≠ "came" := by decide +kernel
    have nkc : ("look" : Str) ≠ "came" := by decide +kernel
    have at0 : atI D.vals 0 = some (.str D.wd) := by cases D <;> rfl
    refine q_asg (ev_ixt (xs := D.vals) rfl hd at0) fun H1 e1 => ?_
    dsimp only [List.set]
    have hd1 := ex_t e1 hd
    refine q_when (ev_inU (xs := [.str "lamp", .str "unsure"]) (ev_var rfl) (eu_tup (ea_cons ev_c (ea_cons ev_c ea_nil)) (by simp)) rfl rfl |> et_test) (fun ht H2 e2 => ?_) (fun ht H2 e2 => ?_)
    · cases D with
      | lamp c =>
        have e12 := e1.trans e2
        have hd2 := ex_t e2 hd1
        refine ⟨_, rfl, ?_⟩
        refine (et_test (ev_op (ev_var rfl) ev_c (rv_eq rfl)) : EvT _ _ H2 false) H2 (Ex.refl H2) _ fun H3 e3 => ?_
        dsimp only
        refine ite_F rfl ?_
        refine ⟨_, rfl, 1, rfl, d, _, rfl, ex_t e3 hd2, (fun z => nomatch (show (1 : Nat) = 0 from z.1)), fun c1 hc1 => ⟨sz_of (by simp), fun ch hch => ⟨sz_of (by simp), fun th hth => ?_⟩⟩⟩
        have x1 := Ex.new (o := .tup (cutV (Deed.lamp c).vals (some 1) none)) hc1
        have x2 := Ex.new (o := .tup [V.ref c1]) hch
        have x3 := Ex.new (o := .tup [V.ref ch, .int 0, .int 0, .bl true]) hth
        have x23 := x2.trans x3
        have e0 := (e12.trans e3).trans (x1.trans x23)
        refine ⟨m, T, "lamp", M.cl, .ref th, rfl, hR.ext e0, hz, by decide +kernel, nlc, by rw [hc] <;> rfl, fun a H4 na e4 hR4 => ?_⟩
        have e04 := e0.trans e4
        have kp := Kp.of e04
        refine k a H4 (fresh_back e0 na) e04 ⟨⟨_, hR4, by rw [putM_at, hc] <;> rfl, by rw [putM_ne nkc (Ne.symm nlk)]; exact hk, ?_, ?_, ?_⟩, ul.snoc, upp, un, ⟨by show (M.lamps ++ [_]).length ≤ 30; rw [List.length_append]; exact l1, f2, f3, f4⟩⟩
        · rw [putM_own nlc]
          refine (hl.mono fun _ _ => kp.lampM).put ul ⟨th, ch, [c1], rfl, st_of (e4 _ _ upd_same), st_of ((x3.trans e4) _ _ upd_same), rfl, fun i p c' hp' hc' => ?_⟩
          match i, hp', hc' with
          | 0, hp', hc' =>
            cases hp'
            cases hc'
            exact st_of ((x23.trans e4) _ _ upd_same)
          | i + 1, hp', hc' => cases hp'
        · rw [putM_ne npc (Ne.symm nlp)]
          exact hp.mono fun _ _ => kp.blkM
        · rw [putM_ne nnc (Ne.symm nln)]
          exact hn.mono fun _ _ => kp.panM
      | post B => exact absurd ht (show ¬ inV (V.str "post") [V.str "lamp", .str "unsure"] = true by decide +kernel)
      | pane a b z => exact absurd ht (show ¬ inV (V.str "pane") [V.str "lamp", .str "unsure"] = true by decide +kernel)
    · refine q_when (et_test (ev_op (ev_var rfl) ev_c (rv_eq rfl))) (fun ht2 H3 e3 => ?_) (fun ht2 H3 e3 => ?_)
      · cases D with
        | lamp c => exact absurd ht2 (show ¬ decide (V.str "lamp" = V.str "post") = true by decide +kernel)
        | pane a b z => exact absurd ht2 (show ¬ decide (V.str "pane" = V.str "post") = true by decide +kernel)
        | post B =>
          have e13 := (e1.trans e2).trans e3
          refine ⟨_, rfl, _, rfl, 1, rfl, d, _, rfl, ex_t e13 hd, (fun z => nomatch (show (1 : Nat) = 0 from z.1)), fun c1 hc1 => ?_⟩
          have x1 := Ex.new (o := .tup (cutV (Deed.post B).vals (some 1) none)) hc1
          have e0 := e13.trans x1
          refine ⟨m, T, "post", M.cp, .ref c1, rfl, hR.ext e0, hz, by decide +kernel, npc, by rw [hc] <;> rfl, fun a H4 na e4 hR4 => ?_⟩
          have e04 := e0.trans e4
          have kp := Kp.of e04
          refine k a H4 (fresh_back e0 na) e04 ⟨⟨_, hR4, by rw [putM_at, hc] <;> rfl, by rw [putM_ne nkc (Ne.symm npk)]; exact hk, ?_, ?_, ?_⟩, ul, upp.snoc, un, ⟨f1, by show (M.posts ++ [_]).length ≤ 30; rw [List.length_append]; exact l2, f3, f4⟩⟩
          · rw [putM_ne nlc nlp]
            exact hl.mono fun _ _ => kp.lampM
          · rw [putM_own npc]
            exact (hp.mono fun _ _ => kp.blkM).put upp ⟨c1, rfl, st_of (e4 _ _ upd_same), hg.2.2⟩
          · rw [putM_ne nnc (Ne.symm npn)]
            exact hn.mono fun _ _ => kp.panM
      · cases D with
        | lamp c => exact absurd ht (show ¬ inV (V.str "lamp") [V.str "lamp", .str "unsure"] = false by decide +kernel)
        | post B => exact absurd ht2 (show ¬ decide (V.str "post" = V.str "post") = false by decide +kernel)
        | pane a b z =>
          have e13 := (e1.trans e2).trans e3
          have hd3 := ex_t e13 hd
          refine ⟨_, rfl, _, rfl, 1, rfl, 3, rfl, d, _, rfl, hd3, (fun z => nomatch (show (1 : Nat) = 0 from z.1)), fun c1 hc1 => ⟨_, rfl, 3, rfl, 5, rfl, d, _, rfl, ex_t (Ex.new hc1) hd3, (fun z => nomatch (show (3 : Nat) = 0 from z.1)), fun c2 hc2 => ?_⟩⟩
          have x1 := Ex.new (o := .tup (cutV (Deed.pane a b z).vals (some 1) (some 3))) hc1
          have x2 := Ex.new (o := .tup (cutV (Deed.pane a b z).vals (some 3) (some 5))) hc2
          have at5 : atI (Deed.pane a b z).vals 5 = some (.str z) := rfl
          refine ⟨_, rfl, d, _, 5, _, rfl, rfl, ex_t (x1.trans x2) hd3, at5, sz_of (by simp), fun th hth => ?_⟩
          have x3 := Ex.new (o := .tup [V.ref c1, .ref c2, .str z]) hth
          have e0 := e13.trans ((x1.trans x2).trans x3)
          refine ⟨m, T, "pane", M.cn, .ref th, rfl, hR.ext e0, hz, by decide +kernel, nnc, by rw [hc] <;> rfl, fun q H4 nq e4 hR4 => ?_⟩
          have e04 := e0.trans e4
          have kp := Kp.of e04
          refine k q H4 (fresh_back e0 nq) e04 ⟨⟨_, hR4, by rw [putM_at, hc] <;> rfl, by rw [putM_ne nkc (Ne.symm nnk)]; exact hk, ?_, ?_, ?_⟩, ul, upp, un.snoc, ⟨f1, f2, by show (M.panes ++ [_]).length ≤ 30; rw [List.length_append]; exact l3, f4⟩⟩
          · rw [putM_ne nlc nln]
            exact hl.mono fun _ _ => kp.lampM
          · rw [putM_ne npc npn]
            exact hp.mono fun _ _ => kp.blkM
          · rw [putM_own nnc]
            exact (hn.mono fun _ _ => kp.panM).put un ⟨th, c1, c2, rfl, st_of (e4 _ _ upd_same), ⟨st_of ((((x2.trans x3).trans e4)) _ _ upd_same), hg.2.2.2.1⟩, ⟨st_of ((x3.trans e4) _ _ upd_same), hg.2.2.2.2⟩⟩
end
end Hs
namespace Hs
open PySem PySem.Spec PyProof.Rows L2 Evl
/-! ### list(d.values()) -/
def tListVals (td : TE) : TE := fun σ H Q => td σ H fun x H1 => ∃ a kvs, x = V.ref a ∧ Rd H1 a (.dK kvs) ∧ ∀ p, H1 p = none → Q (.ref p) (upd H1 p (.lst (kvs.map (·.2))))
theorem vals_at {κ : Type} : ∀ {kvs : List (κ × V)} {vs : List (κ × Value)} {us : List Value}, KV kvs vs → us.length = vs.length → (∀ (j : Nat) (v : Value), us[j]? = some v → ∃ k : κ, vs[j]? = some (k, v)) → Vals (kvs.map (·.2)) us := fun {kvs vs us} r hl h => by
  have e := PySem.W.kdl_vals_eq us hl h
  subst e
  clear h hl
  unfold KV at r
  induction r with
  | nil => exact .nil
  | cons r t ih => exact .cons r.2 ih
section
variable {X : Cx} {o : Expr} {p pos apos mpos : Pos} {td : TE}
theorem pe_listVals (hc : X.calm = true) (hg : Gl X "list") (hm : X.mg "list" = none) (hd : PE X o td) (hbase : attributeBase o "values" X.env (eval o X.env) = eval o X.env := by rfl) (hline : (apos.endLine == mpos.line) = true := by rfl)
    (hse : starEach [Expr.Call (.Attribute o "values" apos) [] [] mpos] X.env = [(false, eval (Expr.Call (.Attribute o "values" apos) [] [] mpos) X.env)] := by rfl) :
    PE X (.Call (.Name "list" p) [.Call (.Attribute o "values" apos) [] [] mpos] [] pos) (tListVals td) := by
  refine ⟨fun pins s σ H Q I h => ?_⟩
  refine wpAny_Call_Name_kw (ld_blt I hg hm (u := .type "list") (by first | rfl | decide +kernel) ?_ (by first | decide +kernel | decide) (by first | decide +kernel | decide))
  rw [hse]
  refine PySem.callWith_type1 (wpAny_Call_method0_late hbase hline (thn (hd.run pins s σ H _ I h) fun v s1 ⟨x, H1, I1, r1, a, kvs, ex, ha, q⟩ => ?_))
  subst ex
  obtain rfl : v = Value.ref a := r1
  obtain ⟨z, lo, vs, rel, dof⟩ := dk_rd I1.hok ha
  obtain ⟨ep, dat⟩ := dof.dictAt
  have dat' := dat
  obtain ⟨ob, es, ho, ex, hdat, hko, hpr, hnd⟩ := dat'
  refine ⟨"dict", "dict.values", F.plainAttrs_dict, F.slot_dict_values, F.type_dict_values, ⟨ob, ho, ex.1⟩, fun b e => ?_, Calls.callWith_builtin rfl (PySem.evalArgs_none ?_)⟩
  · cases e
    exact ⟨ob, ho, ex.2.1⟩
  refine call_meetsIn F.slot_dict_values ⟨ob, ho, ex.1⟩ F.entry_dict_values (F.args_dict_values_1 _) (meets_dict_values (mixKind X.prog X.w) a lo) ⟨⟨vs, dof⟩, ?_⟩
  have k1 : ∀ b u, s1.heap.get? b = some u → (s1.heap.push { cls := .type "dict_values", data := .fields #[.ref a] }).get? b = some u := fun b u e => Heap.get?_push_of_some _ e
  have dat1 : (s1.heap.push { cls := .type "dict_values", data := .fields #[.ref a] }).DictAt (mixKind X.prog X.w) a vs ep := dat.keep k1
  have I2 : Inv X pins σ H1 { s1 with heap := s1.heap.push { cls := .type "dict_values", data := .fields #[.ref a] } } := I1.kept (t' := s1.toks) k1
  refine PySem.W.kdl_call (PySem.W.kdl_values (knd := mixKind X.prog X.w) (kvs := vs) (ep := ep) (d := a) (r := s1.heap.objs.size)) (I2.ok.hd hc) ⟨⟨_, Heap.get?_push_size _ rfl, rfl, rfl⟩, dat1⟩ (by rw [← rel.length]; exact z) fun h' tk acc c' hk hD hacc => ?_
  have hv : Vals (kvs.map (·.2)) acc.toList := vals_at rel (by rw [Array.length_toList]; exact hacc.1) fun j v e => hacc.2 j v (by rw [← Array.getElem?_toList]; exact e)
  refine ⟨.ref (s1.heap.push { cls := .type "dict_values", data := .fields #[.ref a] }).objs.size, upd H1 (s1.heap.push { cls := .type "dict_values", data := .fields #[.ref a] }).objs.size (.lst (kvs.map (·.2))), I2.laid (t' := tk) hk (Nat.le_refl _) (show ObjOk X.prog X.w _ _ _ (.lst (kvs.map (·.2))) from ⟨by rw [List.length_map]; exact z, acc.toList, c', hv, by rw [Array.toArray_toList]; exact hD⟩), rfl, q _ (I2.hok.fresh (Nat.le_refl _))⟩
end
end Hs
namespace Hs
open PySem PySem.Spec PyProof.Rows L2
theorem tuple_mul0 (l : Addr) (items : Array Value) (n : Nat) (dd : Option Addr) (sl : Array (Option Value)) (x : Int) (u : Tok) (c0 : (decide (x < -(2 ^ 63)) || decide (x ≥ 2 ^ 63)) = false) (c1 : (items.isEmpty || x == 1) = false) (c2 : (decide (x ≤ 0) || items.isEmpty) = true) :
    Meets (Builtin.«tuple.__mul__» ⟨[.ref l, .int x u], []⟩) (fun _ R s => s.heap.get? l = some { cls := .type "tuple", dict := dd, data := .seq items n, slots := sl } ∧
      R (.ok (.ret (Value.ref s.heap.objs.size))) { s with heap := s.heap.push { cls := Value.type "tuple", data := Data.seq #[] }, toks := s.toks }) :=
  .of_wp fun prog w A R s h => by
    obtain ⟨hp, g, d, tk, os⟩ := s
    obtain ⟨hl, h⟩ := h
    have f1 := AutoSeq1.idx_int
    wp_walk using wpAny_loadPart' hl
    repeat (first
      | (refine wpAny_ite_false (decide_eq_false (by rw [c0]; exact Bool.false_ne_true)) ?_; wp_walk using wpAny_loadPart' hl)
      | (refine wpAny_ite_false (decide_eq_false (by rw [c1]; exact Bool.false_ne_true)) ?_; wp_walk using wpAny_loadPart' hl)
      | (refine wpAny_ite_true (decide_eq_true (by rw [c2])) ?_; wp_walk using wpAny_loadPart' hl)
      | (refine wpAny_ite_false (decide_eq_false (by simp [sizeLine_eq])) ?_; wp_walk using wpAny_loadPart' hl))
    exact ⟨_, rfl, h⟩
theorem tuple_mul1 (l : Addr) (items : Array Value) (n : Nat) (dd : Option Addr) (sl : Array (Option Value)) (x : Int) (u : Tok) (c0 : (decide (x < -(2 ^ 63)) || decide (x ≥ 2 ^ 63)) = false) (c1 : (items.isEmpty || x == 1) = true) :
    Meets (Builtin.«tuple.__mul__» ⟨[.ref l, .int x u], []⟩) (fun _ R s => s.heap.get? l = some { cls := .type "tuple", dict := dd, data := .seq items n, slots := sl } ∧
      R (.ok (.ret (Value.ref l))) s) :=
  .of_wp fun prog w A R s h => by
    obtain ⟨hp, g, d, tk, os⟩ := s
    obtain ⟨hl, h⟩ := h
    have f1 := AutoSeq1.idx_int
    wp_walk using wpAny_loadPart' hl
    repeat (first
      | (refine wpAny_ite_false (decide_eq_false (by rw [c0]; exact Bool.false_ne_true)) ?_; wp_walk using wpAny_loadPart' hl)
      | (refine wpAny_ite_true (decide_eq_true (by rw [c1])) ?_; wp_walk using wpAny_loadPart' hl)
      | (refine wpAny_ite_false (decide_eq_false (by simp [sizeLine_eq])) ?_; wp_walk using wpAny_loadPart' hl))
    exact ⟨_, rfl, h⟩
/-- t * k, k from 0 on; for k = 1 the same tuple -/
def rRepA (K : PySem.W.Frag) : R2 := fun x y H Q => ∃ l k xs, x = .ref l ∧ y = .int k ∧ SqT K H l xs ∧ xs ≠ [] ∧ 0 ≤ k ∧ k ≤ 1000 ∧ xs.length ≤ 1000 ∧ (k = 1 → Q (.ref l) H) ∧ (k ≠ 1 → ∀ p, H p = none → Q (.ref p) (upd H p (.tup (List.replicate k.toNat xs).flatten)))
theorem op_repA {X : Cx} : OpR X (binaryOp .Mult) (rRepA X.K) := by
  intro pins s σ H x y v u Q I rx ry h
  obtain ⟨l, k, xs, rfl, rfl, hT, hne, h1, h2, hz, q1, q2⟩ := h
  by_cases hk2 : 2 ≤ k
  · exact op_repT pins s σ H _ _ v u Q I rx ry ⟨l, k, xs, rfl, rfl, hT, hne, hk2, h2, hz, q2 (by omega)⟩
  cases rx
  obtain ⟨t, rfl⟩ := ry
  obtain ⟨its, r, ⟨⟨cls, dd, data, sl⟩, ho, hc, n, hd⟩, hs⟩ := I.tuple hT
  simp only at hc hd
  subst hc hd
  have hle : its.length = xs.length := r.length.symm
  have hn : its ≠ [] := fun e => hne (by
    rw [e] at hle
    exact List.eq_nil_of_length_eq_zero hle.symm)
  have hi : its.toArray.isEmpty = false := by
    cases its with
    | nil => exact absurd rfl hn
    | cons a b => rfl
  have c0 : (decide (k < -(2 ^ 63)) || decide (k ≥ 2 ^ 63)) = false := by
    rw [decide_eq_false (by omega), decide_eq_false (by omega)] <;> rfl
  by_cases hk : k = 1
  · have c1 : (its.toArray.isEmpty || k == 1) = true := by
      rw [hi, Bool.false_or, hk] <;> rfl
    refine wpAny_binaryOp_repeat_ref (T := "tuple") (U := "int") (by decide) ⟨_, ho, rfl⟩ (fun s' => typeIs_int s' k t) noFill_tuple_mul F.fills_int_mul F.slot_int_rmul repeat_tuple F.slot_int_index.lookup
      (call_meets F.slot_int_rmul (typeIs_int s k t) F.entry_int_rmul (F.args_int_rmul_2 _ _) (int_rmul_tuple k t l its.toArray n dd sl)
        ⟨ho, rfl, ⟨_, ho, rfl⟩, call_meets F.slot_tuple_mul ⟨_, ho, rfl⟩ F.entry_tuple_mul (F.args_tuple_mul_2 _ _) (tuple_mul1 l its.toArray n dd sl k t c0 c1) ⟨ho, ?_⟩⟩)
    exact ⟨.ref l, H, I, rfl, q1 hk⟩
  · have c1 : (its.toArray.isEmpty || k == 1) = false := by
      rw [hi, Bool.false_or]
      exact beq_eq_false_iff_ne.mpr (by omega)
    have c2 : (decide (k ≤ 0) || its.toArray.isEmpty) = true := by
      rw [hi, Bool.or_false]
      exact decide_eq_true (by omega)
    have ek : k.toNat = 0 := by omega
    refine wpAny_binaryOp_repeat_ref (T := "tuple") (U := "int") (by decide) ⟨_, ho, rfl⟩ (fun s' => typeIs_int s' k t) noFill_tuple_mul F.fills_int_mul F.slot_int_rmul repeat_tuple F.slot_int_index.lookup
      (call_meets F.slot_int_rmul (typeIs_int s k t) F.entry_int_rmul (F.args_int_rmul_2 _ _) (int_rmul_tuple k t l its.toArray n dd sl)
        ⟨ho, rfl, ⟨_, ho, rfl⟩, call_meets F.slot_tuple_mul ⟨_, ho, rfl⟩ F.entry_tuple_mul (F.args_tuple_mul_2 _ _) (tuple_mul0 l its.toArray n dd sl k t c0 c1 c2) ⟨ho, ?_⟩⟩)
    have q := q2 hk
    rw [ek] at q
    refine ⟨.ref s.heap.objs.size, _, I.laid (t' := s.toks) (o := .tup []) (fun b ob q => Heap.get?_push_of_some _ q) (Nat.le_refl _) ?_, rfl, q _ (I.hok.fresh (Nat.le_refl _))⟩
    exact ⟨Nat.zero_le _, [], .nil, IsTup.new _ _⟩
end Hs
namespace Hs
open PySem PySem.Spec PyProof.Rows L2 Evl
/-! ### reading the law's model -/
def rSortDI : List V → Hp → VK → Prop := fun xs H Q => ∃ (a : Addr) (kvs : List (Key × V)) (ks : List Int), xs = [.ref a] ∧ Rd H a (.dK kvs) ∧ kvs.map (·.1) = ks.map Sum.inl ∧ ks.length < 64 ∧ ∀ (ys : List Int) (p : Addr), ys.Perm ks → ys.Pairwise (· ≤ ·) → H p = none → Q (.ref p) (upd H p (.lst (ys.map V.int)))
theorem cr_sortDI {X : Cx} (hc : X.calm = true) : CallR X (.builtin "sorted") rSortDI := call_sortedDI hc
theorem up_nd {α : Type} {xs : List (Int × α)} (u : (xs.map (·.1)).Pairwise (· < ·)) : (xs.map (·.1)).Nodup := u.imp fun h => by omega
theorem TabA.nd {α : Type} {G : V → α → Prop} {ts : List (Key × V)} {xs : List (Int × α)} (h : TabA G ts xs) (u : (xs.map (·.1)).Pairwise (· < ·)) : (ts.map (·.1)).Nodup := by
  rw [h.keys]
  exact List.Pairwise.map _ (fun a b hab e => hab (Sum.inl.inj e)) (up_nd u)
theorem valV_nth : ∀ {ts : List (Key × V)} {i : Nat} {k : Key} {v : V}, (ts.map (·.1)).Nodup → ts[i]? = some (k, v) → valV ts k = some v
  | [], _, _, _, _, h => by cases h
  | p :: r, 0, k, v, _, h => by
    cases h
    exact valV_pos rfl
  | p :: r, i + 1, k, v, hn, h => by
    rw [List.map_cons, List.nodup_cons] at hn
    have h2 : r[i]? = some (k, v) := h
    rw [valV_neg]
    · exact valV_nth hn.2 h2
    · intro e
      exact hn.1 (List.mem_map.mpr ⟨(k, v), List.mem_of_getElem? h2, e.symm⟩)
theorem TabA.get {α : Type} {G : V → α → Prop} {ts : List (Key × V)} {xs : List (Int × α)} (h : TabA G ts xs) (u : (xs.map (·.1)).Pairwise (· < ·)) {i : Nat} {x : Int × α} (hx : xs[i]? = some x) : ∃ v, valV ts (.inl x.1) = some v ∧ G v x.2 := by
  have hi : i < ts.length := by
    rw [h.1]
    exact (List.getElem?_eq_some_iff.mp hx).1
  obtain ⟨e, g⟩ := h.2 i ts[i].1 ts[i].2 x (List.getElem?_eq_getElem hi) hx
  refine ⟨ts[i].2, valV_nth (h.nd u) (i := i) ?_, g⟩
  rw [List.getElem?_eq_getElem hi, ← e]
section
variable {σ : L2.St} {H : Hp} {K : PySem.W.Frag}
theorem ev_fz {td tk : TE} {a : Addr} {kvs : List (Key × V)} {key : Key} {z : V} (h : Ev td σ H (.ref a)) (hk : Ev tk σ H (kV key)) (ha : Fz H a kvs) (hv : valV kvs key = some z) : Ev (tDGet td tk) σ H z := fun H1 e Q q => h H1 e _ fun H2 e2 => hk H2 (e.trans e2) _ fun H3 e3 => ⟨a, z, rfl, by
  have g := (ha.ext ((e.trans e2).trans e3)).get (k := key)
  rw [hv] at g
  exact g, q H3 (e2.trans e3)⟩
theorem el_sort {α : Type} {td : TE} {d : Addr} {ts : List (Key × V)} {xs : List (Int × α)} (h : Ev td σ H (.ref d)) (hd : Fz H d ts) (hk : ts.map (·.1) = (xs.map (·.1)).map Sum.inl) (u : (xs.map (·.1)).Pairwise (· < ·)) (hz : xs.length < 64) : EvL (tCB rSortDI (tCons td tNil)) σ H ((xs.map (·.1)).map V.int) := fun H1 e Q q => h H1 e _ fun H2 e2 => ⟨d, ts, xs.map (·.1), rfl, (hd.ext (e.trans e2)).rd, hk, by rw [List.length_map]; exact hz, fun ys p hp hs hn => by
  have ey : ys = xs.map (·.1) := List.Perm.eq_of_pairwise (le := (· ≤ ·)) (fun a b _ _ h1 h2 => by omega) hs (u.imp fun h => by omega) hp
  rw [ey]
  exact q p _ (fresh_back e2 hn) (e2.trans (Ex.new hn)) upd_same⟩
theorem el_vals {td : TE} {a : Addr} {kvs : List (Key × V)} (h : Ev td σ H (.ref a)) (ha : Fz H a kvs) : EvL (tListVals td) σ H (kvs.map (·.2)) := fun H1 e Q q => h H1 e _ fun H2 e2 => ⟨a, kvs, rfl, (ha.ext (e.trans e2)).rd, fun p hp => q p _ (fresh_back e2 hp) (e2.trans (Ex.new hp)) upd_same⟩
end
theorem keys_at {α : Type} {xs : List (Int × α)} {i : Nat} {x : V} (h : ((xs.map (·.1)).map V.int)[i]? = some x) : ∃ y, xs[i]? = some y ∧ x = .int y.1 := by
  rw [List.getElem?_map, List.getElem?_map] at h
  cases hy : xs[i]? with
  | none =>
    rw [hy] at h
    cases h
  | some y =>
    rw [hy] at h
    cases h
    exact ⟨y, rfl, rfl⟩
def lsM (M : Md) : List (List Chc × Bool) := M.lamps.map fun x => (x.2.1, x.2.2.2.2)
def noL : Int × LM := (0, ([], 0, 0, false))
def chcAt (M : Md) (r : List Int) (i : Nat) : Chc := (M.lamps.getD i noL).2.1.getD (pval (nOn (lsM M)) r i).toNat (0, 0, (0, 0, 0))
def chosenL (M : Md) (r : List Int) (i : Nat) : List (Int × Chc) := (List.range i).map fun j => ((M.lamps.getD j noL).1, chcAt M r j)
theorem lsM_at {M : Md} {i : Nat} {x : Int × LM} (h : M.lamps[i]? = some x) : (lsM M)[i]? = some (x.2.1, x.2.2.2.2) := by
  unfold lsM
  rw [List.getElem?_map, h] <;> rfl
theorem nOn_len {ls : List (List Chc × Bool)} : (nOn ls).length = ls.length := by
  unfold nOn
  rw [List.length_map]
theorem lsM_len {M : Md} : (lsM M).length = M.lamps.length := by
  unfold lsM
  rw [List.length_map]
theorem cnts_given (ls : List (Nat × Bool)) : iv (cnts ls) = given ls.length (fun i => decide (1 < (ls.getD i (0, false)).1)) fun i => .int ((ls.getD i (0, false)).1 : Int) := by
  have e : ls = (List.range ls.length).map fun i => ls.getD i (0, false) := by
    refine List.ext_getElem (by simp) fun i h1 h2 => ?_
    simp [List.getD_eq_getElem?_getD, List.getElem?_eq_getElem h1]
  unfold given cnts
  conv => lhs; rw [e]
  rw [List.filter_map, List.map_map]
  show List.map V.int _ = _
  rw [List.map_map]
  rfl
def spCountsM (K : PySem.W.Frag) (n : Nat) : Sp := fun vs H Q _ => ∃ (m : Addr) (M : Md), vs = [.ref m] ∧ MdA K n H m M ∧ RetL (iv (cnts (nOn (lsM M)))) H Q
def ChcM (K : PySem.W.Frag) (H : Hp) (v : V) (c : Chc) : Prop := ∃ p, v = .ref p ∧ SqT K H p (chv c)
def spChosen (K : PySem.W.Frag) (n : Nat) : Sp := fun vs H Q _ => ∃ (m b : Addr) (M : Md) (r : List Int), vs = [.ref m, .ref b] ∧ MdA K n H m M ∧ SqT K H b (iv r) ∧ GoodR (cnts (nOn (lsM M))) r ∧ (∀ x ∈ M.lamps, 1 ≤ x.2.1.length ∧ x.2.1.length ≤ 1000) ∧ ∀ q ts H', H q = none → Ex H H' → Fz H' q ts → TabA (ChcM K H') ts (chosenL M r M.lamps.length) → Q (.ref q) H'
theorem chosenL_keys {M : Md} {r : List Int} {i : Nat} (hi : i ≤ M.lamps.length) : (chosenL M r i).map (·.1) = (M.lamps.map (·.1)).take i := by
  unfold chosenL
  refine List.ext_getElem (by simp; omega) fun j h1 h2 => ?_
  have hj : j < i := by simpa using h1
  simp [List.getD_eq_getElem?_getD, List.getElem?_eq_getElem (show j < M.lamps.length by omega)]
theorem chosenL_up {M : Md} {r : List Int} {i : Nat} {x : Int × LM} (u : (M.lamps.map (·.1)).Pairwise (· < ·)) (hx : M.lamps[i]? = some x) : Up (chosenL M r i) x.1 := by
  have hi := (List.getElem?_eq_some_iff.mp hx).1
  have hk := chosenL_keys (r := r) (Nat.le_of_lt hi)
  have ht : (M.lamps.map (·.1)).take (i + 1) = (M.lamps.map (·.1)).take i ++ [x.1] := by
    rw [List.take_add_one, List.getElem?_map, hx] <;> rfl
  have hs : ((M.lamps.map (·.1)).take (i + 1)).Pairwise (· < ·) := u.sublist (List.take_sublist ..)
  rw [ht, List.pairwise_append] at hs
  refine ⟨by rw [hk]; exact hs.1, fun y hy => hs.2.2 y.1 ?_ x.1 (by simp)⟩
  rw [← hk]
  exact List.mem_map.mpr ⟨y, hy, rfl⟩
section
variable {P : Program} {w : World} {K : PySem.W.Frag} {mg : Str → Option Value} {base : Heap} {f : Addr} {fd : FuncData} {n : Nat}
abbrev sCountsM : Stmt := top 120
theorem scCountsM : FnScope ["_law_m", "_law_number"] ["_law_m"] (defScope sCountsM) := ⟨rfl, rfl, rfl, by decide +kernel, rfl, by decide +kernel, by decide +kernel⟩
theorem ok_countsM (F : FnP K "_law_counts" sCountsM f fd) (g_len : mg "len" = none) (g_sorted : mg "sorted" = none) : FnOk P w K mg base CX0 1 f fd ["_law_m"] (spCountsM K n) := by
  have nd := scCountsM.nd
  refine F.ok scCountsM (fun vs H Q E h => ?_) (fun cdv A outer s H vs Q E hr h => ⟨_, PSs.nox (pss_one (ps_ret (pe_lc (own := [("_law_number", 1)]) rfl nd (pi_list (pe_callB (r := Hs.rSortDI) (Hs.cr_sortDI rfl) (by rfl) g_sorted (by decide +kernel) (pa_cons (pe_dget (Hs.un1 hr) (pv 0) pe_str (fun _ _ => rfl)) pa_nil))) (blkOk_by (N := ["_law_m", "_law_number"]) (sc := defScope (Hs.top 120)) (by decide +kernel)) (fun _ _ _ _ _ => (pg_name (i := 1) nd rfl (Or.inl rfl))) (fun _ _ _ _ _ => (pts_one (pt_cmpR op_gt (pe_callB (r := Evl.rLenS K) call_len_seq (by rfl) g_len PySem.boot_len (pa_cons (pe_ix (r := rIxT K) ix_tup (pe_dget (Hs.un1 hr) (pe_dget (Hs.un1 hr) (pv 0) pe_str (fun _ _ => rfl)) (pv 1) (fun _ _ => rfl)) pe_int (fun _ _ => rfl)) pa_nil)) pe_int (nomark _)))) (fun _ _ _ _ _ => (pe_callB (r := Evl.rLenS K) call_len_seq (by rfl) g_len PySem.boot_len (pa_cons (pe_ix (r := rIxT K) ix_tup (pe_dget (Hs.un1 hr) (pe_dget (Hs.un1 hr) (pv 0) pe_str (fun _ _ => rfl)) (pv 1) (fun _ _ => rfl)) pe_int (fun _ _ => rfl)) pa_nil)))))), ?_⟩)
  · obtain ⟨m, M, rfl, _⟩ := h
    rfl
  · obtain ⟨m, M, rfl, hM, k⟩ := h
    obtain ⟨T, ⟨D, fm, fT⟩, hc, hk, hl, hp, hn⟩ := hM.ex
    have m1 : ("lamp" : Str) ∈ mW := by decide +kernel
    have hf := hM.few.1
    have hlen : ((M.lamps.map (·.1)).map V.int).length = (nOn (lsM M)).length := by rw [List.length_map, List.length_map, nOn_len, lsM_len]
    have at1 : ∀ {i : Nat} {x : V} {H1 : Hp}, Ex H H1 → ((M.lamps.map (·.1)).map V.int)[i]? = some x → ∃ (th ch : Addr) (cs : List V) (y : Int × LM), x = .int y.1 ∧ M.lamps[i]? = some y ∧ valV (T "lamp") (.inl y.1) = some (.ref th) ∧ SqT K H1 th [.ref ch, .int y.2.2.1, .int y.2.2.2.1, .bl y.2.2.2.2] ∧ SqT K H1 ch cs ∧ cs.length = y.2.1.length := fun {i x H1} e hx => by
      obtain ⟨y, hy, rfl⟩ := keys_at hx
      obtain ⟨v, hv, th, ch, ps, rfl, g1, g2, g3, g4⟩ := hl.get hM.ul.1 hy
      exact ⟨th, ch, _, y, rfl, hy, hv, ex_t e g1, ex_t e g2, by rw [List.length_map, g3]⟩
    have nOnd : ∀ {i : Nat} {y : Int × LM}, M.lamps[i]? = some y → (nOn (lsM M)).getD i (0, false) = (y.2.1.length, y.2.2.2.2) := fun {i y} hy => by rw [List.getD_eq_getElem?_getD, nOn_at (lsM_at hy)] <;> rfl
    refine s_retL ?_ k
    rw [cnts_given, ← hlen]
    refine el_lcNL _ _ (el_sort (xs := M.lamps) (ev_fz (key := .inr "lamp") (ev_var rfl) ev_c fm (valV_row m1)) (fT _ m1) hl.keys hM.ul.1 (by omega)) (by rw [List.length_map, List.length_map]; omega) (fun _ => rfl) (fun i x H1 e1 hx => ?_) (fun i x H1 e1 hx _ => ?_)
    · obtain ⟨th, ch, cs, y, rfl, hy, hv, g1, g2, g3⟩ := at1 e1 hx
      refine et_is (et_test (ev_op (ev_lenQ (K := K) (ev_op (ev_fz (key := .inl y.1) (ev_fz (key := .inr "lamp") (ev_var rfl) ev_c (fm.ext e1) (valV_row m1)) (ev_var rfl) ((fT _ m1).ext e1) hv) ev_c (rv_ixT g1 rfl)) (.inr g2)) ev_c rv_I0)) ?_
      rw [nOnd hy, g3]
      exact decide_eq_decide.mpr (by omega)
    · obtain ⟨th, ch, cs, y, rfl, hy, hv, g1, g2, g3⟩ := at1 e1 hx
      refine ev_is (ev_lenQ (K := K) (ev_op (ev_fz (key := .inl y.1) (ev_fz (key := .inr "lamp") (ev_var rfl) ev_c (fm.ext e1) (valV_row m1)) (ev_var rfl) ((fT _ m1).ext e1) hv) ev_c (rv_ixT g1 rfl)) (.inr g2)) ?_
      rw [nOnd hy, g3]
abbrev sChosen : Stmt := top 132
theorem scChosen : FnScope ["_law_m", "_law_picks", "_law_found", "_law_at", "_law_number", "_law_choices"] ["_law_m", "_law_picks"] (defScope sChosen) := ⟨rfl, rfl, rfl, by decide +kernel, rfl, by decide +kernel, by decide +kernel⟩
theorem ok_chosen (F : FnP K "_law_chosen" sChosen f fd) (g_len : mg "len" = none) (g_sorted : mg "sorted" = none) (g_int : mg "int" = none) : FnOk P w K mg base CX0 1 f fd ["_law_m", "_law_picks"] (spChosen K n) := by
  have nd := scChosen.nd
  refine F.ok scChosen (fun vs H Q E h => ?_) (fun cdv A outer s H vs Q E hr h => ⟨_, PSs.nox (pss_cons (ps_set (i := 2) nd rfl (.inl rfl) pe_dnewK)
  (pss_cons (ps_set (i := 3) nd rfl (.inl rfl) pe_int)
  (pss_cons (ps_for PassesOwn.never rfl (pi_list (pe_callB (r := Hs.rSortDI) (Hs.cr_sortDI rfl) (by rfl) g_sorted (by decide +kernel) (pa_cons (pe_dget (Hs.un1 hr) (pv 0) pe_str (fun _ _ => rfl)) pa_nil))) (pg_name (i := 4) nd rfl (.inl rfl)) (pss_cons (ps_set (i := 5) nd rfl (.inl rfl) (pe_ix (r := rIxT K) ix_tup (pe_dget (Hs.un1 hr) (pe_dget (Hs.un1 hr) (pv 0) pe_str (fun _ _ => rfl)) (pv 4) (fun _ _ => rfl)) pe_int (fun _ _ => rfl)))
  (pss_cons (ps_dput (Hs.un1 hr) (pv 2) (pv 4) (pe_ifExp (pt_cmpR op_gt (pe_callB (r := Evl.rLenS K) call_len_seq (by rfl) g_len PySem.boot_len (pa_cons (pv 5) pa_nil)) pe_int (nomark _)) (pe_ix (r := rIxT K) ix_tup (pv 5) (pe_ix (r := rIxT K) ix_tup (pv 1) (pv 3) (fun _ _ => rfl)) (fun _ _ => rfl)) (pe_ix (r := rIxT K) ix_tup (pv 5) pe_int (fun _ _ => rfl))) (by rfl))
  (pss_one (ps_set (i := 3) nd rfl (.inl rfl) (pe_op op_add (pv 3) (pe_callTy call_int1 (by rfl) g_int (by decide +kernel) (pa_cons (pe_cmpR op_gt (pe_callB (r := Evl.rLenS K) call_len_seq (by rfl) g_len PySem.boot_len (pa_cons (pv 5) pa_nil)) pe_int (nomark _)) pa_nil))))))))
  (pss_one (ps_ret (Hs.pe_frzA (pv 2))))))), ?_⟩)
  · obtain ⟨m, b, M, r, rfl, _⟩ := h
    rfl
  · obtain ⟨m, b, M, r, rfl, hM, hb, hg, hL, k⟩ := h
    obtain ⟨T, ⟨D, fm, fT⟩, hc, hk, hl, hp, hn⟩ := hM.ex
    have m1 : ("lamp" : Str) ∈ mW := by decide +kernel
    have hf := hM.few.1
    refine fun q hq => ?_
    dsimp only [gName, List.set]
    have xq := Ex.new (o := .dK []) hq
    refine q_asg ev_c fun H1 e1 => ?_
    have e01 := xq.trans e1
    have hq1 := e1 _ _ (upd_same (H := H) (a := q) (o := .dK []))
    refine q_forNL (K := K) (el_sort (xs := M.lamps) (ev_fz (key := .inr "lamp") (ev_var rfl) ev_c (fm.ext e01) (valV_row m1)) ((fT _ m1).ext e01) hl.keys hM.ul.1 (by omega)) (fun p i σ' H' => H1 p = none ∧ H' p = some (.lst ((M.lamps.map (·.1)).map V.int)) ∧ Ex H H' ∧ ∃ (ts : List (Key × V)) (v4 v5 : Option V), σ' = [some (.ref m), some (.ref b), some (.ref q), some (.int ((cnts ((nOn (lsM M)).take i)).length : Int)), v4, v5] ∧ H' q = some (.dK ts) ∧ TabA (ChcM K H') ts (chosenL M r i)) ?_ ?_ ?_ ?_
    · intro p H2 np e2 hp2
      exact ⟨np, hp2, e01.trans e2, [], none, none, rfl, e2 _ _ hq1, rfl, fun i k v x h _ => by cases h⟩
    · rintro p i σ' H' _ ⟨_, hp2, _⟩
      exact sq_of hp2
    · rintro p i x σ' H' hx ⟨np, hp2, e, ts, v4, v5, rfl, hq2, hts⟩
      obtain ⟨y, hy, rfl⟩ := keys_at hx
      obtain ⟨v, hv, th, ch, ps, rfl, g1, g2, g3, g4⟩ := hl.get hM.ul.1 hy
      have hyi := (List.getElem?_eq_some_iff.mp hy).1
      have hno := nOn_at (lsM_at hy)
      have hnd : (nOn (lsM M)).getD i (0, false) = (y.2.1.length, y.2.2.2.2) := by rw [List.getD_eq_getElem?_getD, hno] <;> rfl
      have hnx := cnts_next hno
      dsimp only [gName, List.set]
      refine q_asg (ev_op (ev_fz (key := .inl y.1) (ev_fz (key := .inr "lamp") (ev_var rfl) ev_c (fm.ext e) (valV_row m1)) (ev_var rfl) ((fT _ m1).ext e) hv) ev_c (rv_ixT (ex_t e g1) rfl)) fun H2 e2 => ?_
      dsimp only [List.set]
      have e02 := e.trans e2
      obtain ⟨p0, p1⟩ := pval_ok hg (fun z hz => by
        unfold lsM at hz
        obtain ⟨u, hu, rfl⟩ := List.mem_map.mp hz
        exact (hL u hu).1) (lsM_at hy)
      have hg2 := ex_t e02 g2
      have hcl : (ps.map V.ref).length = y.2.1.length := by rw [List.length_map, g3]
      obtain ⟨pc, hpc⟩ : ∃ pc, ps[(pval (nOn (lsM M)) r i).toNat]? = some pc := ⟨_, List.getElem?_eq_getElem (by rw [g3]; exact p1)⟩
      have hpcV : (ps.map V.ref)[(pval (nOn (lsM M)) r i).toNat]? = some (.ref pc) := by rw [List.getElem?_map, hpc] <;> rfl
      have hchc : chcAt M r i = y.2.1[(pval (nOn (lsM M)) r i).toNat] := by
        unfold chcAt
        rw [List.getD_eq_getElem?_getD (l := M.lamps), hy]
        show y.2.1.getD _ _ = _
        rw [List.getD_eq_getElem?_getD, List.getElem?_eq_getElem p1] <;> rfl
      have hpcT : SqT K H pc (chv (chcAt M r i)) := by
        rw [hchc]
        exact g4 _ pc _ hpc (List.getElem?_eq_getElem p1)
      have hval : Ev (tIf (tTest (tOp (rI0 fun i j => .bl (decide (i > j))) (tCB (rLenS K) (tCons (tVar 5) tNil)) (tC (.int 1)))) (tOp (rIxT K) (tVar 5) (tOp (rIxT K) (tVar 1) (tVar 3))) (tOp (rIxT K) (tVar 5) (tC (.int 0)))) [some (.ref m), some (.ref b), some (.ref q), some (.int ((cnts ((nOn (lsM M)).take i)).length : Int)), some (.int y.1), some (.ref ch)] H2 (.ref pc) := by
        refine ev_if (et_test (ev_op (ev_lenQ (K := K) (ev_var rfl) (.inr hg2)) ev_c rv_I0)) (fun ht => ?_) (fun ht => ?_)
        · have hc1 : 1 < y.2.1.length := by
            have := of_decide_eq_true ht
            rw [hcl] at this
            omega
          have hu : (cnts ((nOn (lsM M)).take i)).length < r.length := by
            have e1 : cnts (nOn (lsM M)) = cnts ((nOn (lsM M)).take (i + 1)) ++ cnts ((nOn (lsM M)).drop (i + 1)) := by rw [← cnts_app, List.take_append_drop]
            rw [hg.1, e1, hnx, if_pos hc1, List.length_append, List.length_append]
            simp
            omega
          have hpv : pval (nOn (lsM M)) r i = r.getD (cnts ((nOn (lsM M)).take i)).length 0 := by
            unfold pval
            rw [hnd, if_pos hc1]
          have hat : atI (iv r) ((cnts ((nOn (lsM M)).take i)).length : Int) = some (.int (pval (nOn (lsM M)) r i)) := by
            refine atI_nat ?_
            rw [List.getElem?_map, List.getElem?_eq_getElem hu, hpv, List.getD_eq_getElem?_getD, List.getElem?_eq_getElem hu] <;> rfl
          have hat2 : atI (ps.map V.ref) (pval (nOn (lsM M)) r i) = some (.ref pc) := by
            have z := atI_nat hpcV
            rw [Int.toNat_of_nonneg p0] at z
            exact z
          exact ev_op (ev_var rfl) (ev_op (ev_var rfl) (ev_var rfl) (rv_ixT (ex_t e02 hb) hat)) (rv_ixT hg2 hat2)
        · have hc1 : ¬ 1 < y.2.1.length := by
            have := of_decide_eq_false ht
            rw [hcl] at this
            omega
          have hpv : pval (nOn (lsM M)) r i = 0 := by
            unfold pval
            rw [hnd, if_neg hc1]
          rw [hpv] at hpcV
          exact ev_op (ev_var rfl) ev_c (rv_ixT hg2 (atI_nat (j := 0) hpcV))
      refine hval H2 (Ex.refl H2) _ fun H3 e3 => ?_
      have e23 := e2.trans e3
      have hq3 := e23 _ _ hq2
      have hts3 : TabA (ChcM K H3) ts (chosenL M r i) := hts.mono fun v c ⟨p, h1, h2⟩ => ⟨p, h1, ex_t e23 h2⟩
      have htl : ts.length ≤ 30 := by
        rw [hts.1]
        unfold chosenL
        rw [List.length_map, List.length_range]
        omega
      refine ⟨_, rfl, _, rfl, q, _, rfl, DPut.k (k := .inl y.1) hq3 (sz_lt (by omega)), ?_⟩
      have hq4 : upd H3 q (.dK (putK ts (.inl y.1) (.ref pc))) q = some (.dK (putK ts (.inl y.1) (.ref pc))) := upd_same
      have hk4 : ∀ {v : V} {c : Chc}, ChcM K H3 v c → ChcM K (upd H3 q (.dK (putK ts (.inl y.1) (.ref pc)))) v c := fun {v c} ⟨p, h1, h2⟩ => ⟨p, h1, sqt_upd h2 hq3 (by intro ys z; cases z) (by intro od v z; cases z)⟩
      have hts4 : TabA (ChcM K (upd H3 q (.dK (putK ts (.inl y.1) (.ref pc))))) (putK ts (.inl y.1) (.ref pc)) (chosenL M r i ++ [(y.1, chcAt M r i)]) := (hts3.put (chosenL_up hM.ul.1 hy) ⟨pc, rfl, ex_t (e02.trans e3) hpcT⟩).mono fun _ _ => hk4
      have e04 : Ex H (upd H3 q (.dK (putK ts (.inl y.1) (.ref pc)))) := Ex.mut (e02.trans e3) hq
      have hp4 : upd H3 q (.dK (putK ts (.inl y.1) (.ref pc))) p = some (.lst ((M.lamps.map (·.1)).map V.int)) := by
        rw [upd_ne (ne_of (e23 _ _ hp2) hq3 (by intro z; cases z))]
        exact e23 _ _ hp2
      have hg4 := ex_t (Ex.mut (o := .dK (putK ts (.inl y.1) (.ref pc))) (e02.trans e3) hq) g2
      generalize upd H3 q (.dK (putK ts (.inl y.1) (.ref pc))) = H4 at hq4 hts4 e04 hp4 hg4 ⊢
      have hcl2 : chosenL M r (i + 1) = chosenL M r i ++ [(y.1, chcAt M r i)] := by
        unfold chosenL
        rw [List.range_succ, List.map_append, List.map_singleton, List.getD_eq_getElem?_getD (i := i), hy] <;> rfl
      dsimp only
      refine s_asg (i := 3) (v := .int ((cnts ((nOn (lsM M)).take (i + 1))).length : Int)) ?vv ?kk
      case kk => exact fun H5 e5 => ⟨np, e5 _ _ hp4, e04.trans e5, _, some (.int y.1), some (.ref ch), rfl, e5 _ _ hq4, by rw [hcl2]; exact hts4.mono fun v c ⟨p, h1, h2⟩ => ⟨p, h1, ex_t e5 h2⟩⟩
      case vv =>
       refine ev_is (ev_op (x := .int ((cnts ((nOn (lsM M)).take i)).length : Int)) (y := .int (if decide ((ps.map V.ref).length > (1 : Int)) = true then 1 else 0)) (ev_var rfl) ?_ rv_I0) ?_
       · exact fun H6 e6 Q' q' => (ev_op (ev_lenQ (K := K) (ev_var rfl) (.inr hg4)) ev_c rv_I0) H6 e6 _ fun H7 e7 => .inr ⟨_, rfl, q' H7 e7⟩
       · rw [hnx, hcl]
         by_cases hc1 : 1 < y.2.1.length
         · rw [if_pos hc1, List.length_append, if_pos (decide_eq_true (by omega))]
           rfl
         · rw [if_neg hc1, List.append_nil, if_neg (by rw [decide_eq_false (by omega)]; exact Bool.false_ne_true)]
           show V.int (_ + 0) = _
           rw [Int.add_zero]
    · rintro p σ' H' ⟨np, hp2, e, ts, v4, v5, rfl, hq2, hts⟩
      have elen : ((M.lamps.map (·.1)).map V.int).length = M.lamps.length := by rw [List.length_map, List.length_map]
      rw [elen] at hts
      refine ⟨_, rfl, q, _, hq2, True.intro, fun od => k q ts _ hq (Ex.mut e hq) ⟨od, upd_same⟩ (hts.mono fun v c ⟨p, h1, h2⟩ => ⟨p, h1, sqt_upd h2 hq2 (by intro ys z; cases z) (by intro od v z; cases z)⟩)⟩
end
end Hs
namespace Hs
open PySem PySem.Spec PyProof.Rows L2 Evl
/-! ### lamps that burn, the light of a place -/
section
variable {σ : L2.St} {H : Hp} {K : PySem.W.Frag}
theorem eu_sl {te : TE} {tl th : TO} {a : Addr} {xs : List V} {lo hi : Option Int} (h : Ev te σ H (.ref a)) (h1 : EvO tl σ H lo) (h2 : EvO th σ H hi) (hs : SqT K H a xs) (hw : ¬ (HT.sIx xs.length 0 lo = 0 ∧ HT.sIx xs.length xs.length hi = xs.length)) : EvU (tSl (rSlT K) te tl th) σ H (cutV xs lo hi) := fun H1 e _ q =>
  h H1 e _ fun H2 e2 => h1 H2 (e.trans e2) _ fun H3 e3 => h2 H3 ((e.trans e2).trans e3) _ fun H4 e4 =>
    ⟨a, xs, rfl, ex_t (((e.trans e2).trans e3).trans e4) hs, hw, fun p hp => q p _ (fresh_back ((e2.trans e3).trans e4) hp) (((e2.trans e3).trans e4).trans (Ex.new hp)) upd_same⟩
end
def burnAt (M : Md) (r : List Int) (j : Nat) : Int × Pt × Tri := ((M.lamps.getD j noL).1, ((chcAt M r j).1 + (M.lamps.getD j noL).2.2.1, (chcAt M r j).2.1 + (M.lamps.getD j noL).2.2.2.1), (chcAt M r j).2.2)
def isOn (M : Md) (j : Nat) : Bool := (M.lamps.getD j noL).2.2.2.2
def burnL (M : Md) (r : List Int) (i : Nat) : List (Int × Pt × Tri) := ((List.range i).filter (isOn M)).map (burnAt M r)
theorem burnL_len {M : Md} {r : List Int} {i : Nat} : (burnL M r i).length ≤ i := by
  unfold burnL
  rw [List.length_map]
  have h := List.length_filter_le (isOn M) (List.range i)
  rw [List.length_range] at h
  exact h
theorem burnL_next {M : Md} {r : List Int} {i : Nat} : burnL M r (i + 1) = burnL M r i ++ if isOn M i = true then [burnAt M r i] else [] := by
  unfold burnL
  rw [List.range_succ, List.filter_append, List.map_append]
  congr 1
  by_cases h : isOn M i = true
  · rw [if_pos h]
    simp [h]
  · rw [if_neg h]
    simp [h]
def BurnA (K : PySem.W.Frag) (n : Nat) (H : Hp) (qs : List Addr) (Ls : List (Int × Pt × Tri)) : Prop := qs.length = Ls.length ∧ ∀ (i : Nat) (q : Addr) (l : Int × Pt × Tri), qs[i]? = some q → Ls[i]? = some l → ∃ a t, SqT K H q [.int l.1, .ref a, .ref t] ∧ Pl K n H a l.2.1 ∧ SqT K H t (tri l.2.2)
theorem BurnA.ext {K : PySem.W.Frag} {n : Nat} {H H' : Hp} {ps : List Addr} {Ls : List (Int × Pt × Tri)} (h : BurnA K n H ps Ls) (e : Ex H H') : BurnA K n H' ps Ls := ⟨h.1, fun i p N hp hN => let ⟨a, b, g1, g2, g3⟩ := h.2 i p N hp hN; ⟨a, b, ex_t e g1, g2.ext e, ex_t e g3⟩⟩
theorem BurnA.updL {K : PySem.W.Frag} {n : Nat} {H : Hp} {ps : List Addr} {Ls : List (Int × Pt × Tri)} {p : Addr} {xs : List V} {o : HO} (h : BurnA K n H ps Ls) (hp : H p = some (.lst xs)) : BurnA K n (upd H p o) ps Ls := ⟨h.1, fun i q N hq hN => let ⟨a, b, g1, g2, g3⟩ := h.2 i q N hq hN; ⟨a, b, sqt_upd g1 hp (by intro ys z; cases z) (by intro od v z; cases z), ⟨sqt_upd g2.1 hp (by intro ys z; cases z) (by intro od v z; cases z), g2.2⟩, sqt_upd g3 hp (by intro ys z; cases z) (by intro od v z; cases z)⟩⟩
theorem all_snoc {α β : Type} {G : α → β → Prop} {ps : List α} {xs : List β} {q : α} {y : β} (h : ps.length = xs.length ∧ ∀ (i : Nat) (p : α) (x : β), ps[i]? = some p → xs[i]? = some x → G p x) (g : G q y) : (ps ++ [q]).length = (xs ++ [y]).length ∧ ∀ (i : Nat) (p : α) (x : β), (ps ++ [q])[i]? = some p → (xs ++ [y])[i]? = some x → G p x := by
  refine ⟨by rw [List.length_append, List.length_append, h.1] <;> rfl, fun i p x hp hx => ?_⟩
  by_cases hi : i < ps.length
  · rw [List.getElem?_append_left hi] at hp
    rw [List.getElem?_append_left (by rw [← h.1]; exact hi)] at hx
    exact h.2 i p x hp hx
  · rw [List.getElem?_append_right (by omega)] at hp
    rw [List.getElem?_append_right (by rw [← h.1]; omega), ← h.1] at hx
    have e0 : i - ps.length = 0 := by
      have : i - ps.length < 1 := (List.getElem?_eq_some_iff.mp hp).1
      omega
    rw [e0] at hp hx
    cases hp
    cases hx
    exact g
def OkL (M : Md) : Prop := ∀ x ∈ M.lamps, 1 ≤ x.2.1.length ∧ x.2.1.length ≤ 1000
def spBurn (K : PySem.W.Frag) (n : Nat) : Sp := fun vs H Q _ => ∃ (m b : Addr) (M : Md) (r : List Int), vs = [.ref m, .ref b] ∧ MdA K n H m M ∧ SqT K H b (iv r) ∧ GoodR (cnts (nOn (lsM M))) r ∧ OkL M ∧ (∀ y ∈ burnL M r M.lamps.length, Bd n y.2.1.1 ∧ Bd n y.2.1.2) ∧ ∀ p qs H', H p = none → Ex H H' → H' p = some (.lst (qs.map V.ref)) → BurnA K n H' qs (burnL M r M.lamps.length) → Q (.ref p) H'
/-- the lights that the law reckons with -/
def litsM (M : Md) (r : List Int) : List (Pt × Tri) := (burnL M r M.lamps.length).map fun y => y.2
def blksM (M : Md) : List Blk := M.posts.map fun x => x.2
def pansM (M : Md) : List Pan := M.panes.map fun x => x.2
section
variable {P : Program} {w : World} {K : PySem.W.Frag} {mg : Str → Option Value} {base : Heap} {f : Addr} {fd : FuncData} {n : Nat}
abbrev sBurn : Stmt := top 133
theorem scBurn : FnScope ["_law_m", "_law_picks", "_law_found", "_law_table", "_law_number", "_law_east", "_law_north", "_law_burns", "_law_one_here"] ["_law_m", "_law_picks"] (defScope sBurn) := ⟨rfl, rfl, rfl, by decide +kernel, rfl, by decide +kernel, by decide +kernel⟩
theorem ok_burn (F : FnP K "_law_burning" sBurn f fd) (O__law_chosen : Own P w K mg base 1 "_law_chosen" ["_law_m", "_law_picks"] (spChosen K n)) (g_sorted : mg "sorted" = none) : FnOk P w K mg base CX0 2 f fd ["_law_m", "_law_picks"] (spBurn K n) := by
  have nd := scBurn.nd
  refine F.ok scBurn (fun vs H Q E h => ?_) (fun cdv A outer s H vs Q E hr h => ⟨_, PSs.nox (pss_cons (ps_set (i := 2) nd rfl (.inl rfl) (pe_lst pa_nil))
  (pss_cons (ps_set (i := 3) nd rfl (.inl rfl) (Hs.pe_own O__law_chosen hr (by first | decide | omega) (by rfl) (pa_cons (pv 0) (pa_cons (pv 1) pa_nil))))
  (pss_cons (ps_for PassesOwn.never rfl (pi_list (pe_callB (r := Hs.rSortDI) (Hs.cr_sortDI rfl) (by rfl) g_sorted (by decide +kernel) (pa_cons (pe_dget (Hs.un1 hr) (pv 0) pe_str (fun _ _ => rfl)) pa_nil))) (pg_name (i := 4) nd rfl (.inl rfl)) (pss_cons (ps_asg (pe_slice sl_tup (pe_dget (Hs.un1 hr) (pe_dget (Hs.un1 hr) (pv 0) pe_str (fun _ _ => rfl)) (pv 4) (fun _ _ => rfl)) (po_some pe_int) po_none) (pg_tup rfl (pgs_cons (pg_name (i := 5) nd rfl (.inl rfl)) (pgs_cons (pg_name (i := 6) nd rfl (.inl rfl)) (pgs_cons (pg_name (i := 7) nd rfl (.inl rfl)) pgs_nil)))))
  (pss_cons (ps_set (i := 8) nd rfl (.inl rfl) (pe_dget (Hs.un1 hr) (pv 3) (pv 4) (fun _ _ => rfl)))
  (pss_one (ps_if (pt_val (pv 7)) (pss_one (ps_expr (pe_bm PySem.F.plainAttrs_list PySem.F.slot_list_append PySem.F.type_list_append mt_append (pv 2) (pa_cons (pe_tup (pa_cons (pv 4) (pa_cons (pe_tup (pa_cons (pe_op op_add (pe_ix (r := rIxT K) ix_tup (pv 8) pe_int (fun _ _ => rfl)) (pv 5)) (pa_cons (pe_op op_add (pe_ix (r := rIxT K) ix_tup (pv 8) pe_int (fun _ _ => rfl)) (pv 6)) pa_nil))) (pa_cons (pe_slice sl_tup (pv 8) (po_some pe_int) po_none) pa_nil)))) pa_nil)))) pss_nil)))))
  (pss_one (ps_ret (pv 2)))))), ?_⟩)
  · obtain ⟨m, b, M, r, rfl, _⟩ := h
    rfl
  · obtain ⟨m, b, M, r, rfl, hM, hb, hg, hL, hBd, k⟩ := h
    obtain ⟨T, ⟨D, fm, fT⟩, hc, hk, hl, hp, hn⟩ := hM.ex
    have m1 : ("lamp" : Str) ∈ mW := by decide +kernel
    have hf := hM.few.1
    refine q_asgL (xs := []) (el_lst ea_nil (by simp)) fun fo H1 nfo e1 hfo => ?_
    dsimp only [List.set]
    refine ⟨_, rfl, _, rfl, m, b, M, r, rfl, hM.ext e1, ex_t e1 hb, hg, hL, fun tb ts H2 ntb e2 hF hT => ?_⟩
    dsimp only [gName, List.set]
    have e02 := e1.trans e2
    have hfo2 := e2 _ _ hfo
    refine q_forNL (K := K) (el_sort (xs := M.lamps) (ev_fz (key := .inr "lamp") (ev_var rfl) ev_c (fm.ext e02) (valV_row m1)) ((fT _ m1).ext e02) hl.keys hM.ul.1 (by omega)) (fun p i σ' H' => H2 p = none ∧ H' p = some (.lst ((M.lamps.map (·.1)).map V.int)) ∧ But H2 H' fo ∧ ∃ (qs : List Addr) (v4 v5 v6 v7 v8 : Option V), σ' = [some (.ref m), some (.ref b), some (.ref fo), some (.ref tb), v4, v5, v6, v7, v8] ∧ H' fo = some (.lst (qs.map V.ref)) ∧ BurnA K n H' qs (burnL M r i)) ?_ ?_ ?_ ?_
    · intro p H3 np e3 hp3
      exact ⟨np, hp3, But.of e3, [], none, none, none, none, none, rfl, e3 _ _ hfo2, rfl, fun i q l h => by cases h⟩
    · rintro p i σ' H' _ ⟨_, hp2, _⟩
      exact sq_of hp2
    · rintro p i x σ' H' hx ⟨np, hp2, bt, qs, v4, v5, v6, v7, v8, rfl, hfo', hbu⟩
      obtain ⟨y, hy, rfl⟩ := keys_at hx
      have hyi := (List.getElem?_eq_some_iff.mp hy).1
      obtain ⟨v, hv, th, ch, ps, rfl, g1, g2, g3, g4⟩ := hl.get hM.ul.1 hy
      have hgd : M.lamps.getD i noL = y := by rw [List.getD_eq_getElem?_getD, hy] <;> rfl
      have e : Ex H H' := fun a o ha => bt a o (e02 _ _ ha) (ne_of_none ha nfo)
      have fz2 : Fz H' tb ts := let ⟨od, z⟩ := hF; ⟨od, bt _ _ z (ne_of z hfo2 (by intro z; cases z))⟩
      have hcL : (chosenL M r M.lamps.length)[i]? = some (y.1, chcAt M r i) := by
        unfold chosenL
        rw [List.getElem?_map, List.getElem?_range hyi]
        show some ((M.lamps.getD i noL).1, chcAt M r i) = _
        rw [hgd]
      have hku : ((chosenL M r M.lamps.length).map (·.1)).Pairwise (· < ·) := by
        rw [chosenL_keys (Nat.le_refl _), List.take_of_length_le (by rw [List.length_map]; exact Nat.le_refl _)]
        exact hM.ul.1
      obtain ⟨cv, hcv, pc, rfl, hpc⟩ := hT.get hku hcL
      have hpc' : SqT K H' pc (chv (chcAt M r i)) := by
        rcases hpc with (z | ⟨od, z⟩) | z
        · exact .inl (.inl (bt _ _ z (ne_of z hfo2 (by intro z; cases z))))
        · exact .inl (.inr ⟨od, bt _ _ z (ne_of z hfo2 (by intro z; cases z))⟩)
        · exact .inr z
      dsimp only [gName, List.set]
      refine q_ev ((eu_sl (K := K) (xs := [.ref ch, .int y.2.2.1, .int y.2.2.2.1, .bl y.2.2.2.2]) (lo := some 1) (hi := none) (ev_fz (key := .inl y.1) (ev_fz (key := .inr "lamp") (ev_var rfl) ev_c (fm.ext e) (valV_row m1)) (ev_var rfl) ((fT _ m1).ext e) hv) (eo_some ev_c) eo_none (ex_t e g1) (fun z => nomatch (show (1 : Nat) = 0 from z.1))) H' (Ex.refl _) _ fun t3 H3 n3 e3 h3 => ?_)
      refine ⟨t3, _, rfl, st_of h3, rfl, _, _, rfl, _, _, rfl, _, _, rfl, rfl, ?_⟩
      dsimp only [gName, List.set]
      refine q_asg (ev_fz (key := .inl y.1) (ev_var rfl) (ev_var rfl) (fz2.ext e3) hcv) fun H4 e4 => ?_
      dsimp only [List.set]
      have e34 := e3.trans e4
      refine s_when (et_test (ev_var (v := .bl y.2.2.2.2) rfl)) (fun ht H5 e5 => ?_) (fun ht H5 e5 => ?_)
      · have e35 := e34.trans e5
        have hon : isOn M i = true := by
          unfold isOn
          rw [hgd]
          exact ht
        have hnx := burnL_next (M := M) (r := r) (i := i)
        rw [if_pos hon] at hnx
        have hba : burnAt M r i = (y.1, ((chcAt M r i).1 + y.2.2.1, (chcAt M r i).2.1 + y.2.2.2.1), (chcAt M r i).2.2) := by
          unfold burnAt
          rw [hgd]
        have hbd := hBd (burnAt M r i) (by
          unfold burnL
          exact List.mem_map.mpr ⟨i, List.mem_filter.mpr ⟨List.mem_range.mpr hyi, hon⟩, rfl⟩)
        rw [hba] at hbd
        have hpc5 := ex_t e35 hpc'
        refine ⟨_, rfl, .inl ⟨rfl, _, sq_of (e35 _ _ hfo')⟩, _, rfl, ?_⟩
        refine (eu_tup (vs := prV ((chcAt M r i).1 + y.2.2.1, (chcAt M r i).2.1 + y.2.2.2.1)) (ea_cons (ev_op (ev_op (ev_var rfl) ev_c (rv_ixT hpc5 rfl)) (ev_var rfl) rv_I0) (ea_cons (ev_op (ev_op (ev_var rfl) ev_c (rv_ixT hpc5 rfl)) (ev_var rfl) rv_I0) ea_nil)) (by show 2 ≤ 100000; decide)) H5 (Ex.refl _) _ fun p6 H6 np6 e6 h6 => ?_
        refine (eu_sl (K := K) (xs := chv (chcAt M r i)) (lo := some 2) (hi := none) (ev_var rfl) (eo_some ev_c) eo_none (ex_t e6 hpc5) (fun z => nomatch (show (2 : Nat) = 0 from z.1))) H6 (Ex.refl _) _ fun p7 H7 np7 e7 h7 => ⟨sz_of (by simp), fun t ht8 => ?_⟩
        have x8 := Ex.new (o := .tup [V.int y.1, .ref p6, .ref p7]) ht8
        have e58 := (e6.trans e7).trans x8
        have e38 := e35.trans e58
        have hfo8 := e38 _ _ hfo'
        have hql : qs.length ≤ 30 := by
          rw [hbu.1]
          have := burnL_len (M := M) (r := r) (i := i)
          omega
        refine ⟨fo, _, _, rfl, rfl, hfo8, sz_lt (by rw [List.length_map]; omega), ?_⟩
        refine ⟨np, ?_, (bt.ex e38).upd, qs ++ [t], _, _, _, _, _, rfl, by rw [upd_same, List.map_append] <;> rfl, ?_⟩
        · rw [upd_ne (ne_of_none hfo2 np).symm]
          exact e38 _ _ hp2
        · rw [hnx, hba]
          exact BurnA.updL (all_snoc (hbu.ext e38) ⟨p6, p7, st_of upd_same, ⟨st_of ((e7.trans x8) _ _ h6), hbd⟩, st_of (x8 _ _ h7)⟩) hfo8
      · have e35 := e34.trans e5
        have hon : ¬ isOn M i = true := by
          unfold isOn
          rw [hgd]
          rw [show y.2.2.2.2 = false from ht]
          exact Bool.false_ne_true
        have hnx := burnL_next (M := M) (r := r) (i := i)
        rw [if_neg hon, List.append_nil] at hnx
        refine ⟨np, e35 _ _ hp2, bt.ex e35, qs, _, _, _, _, _, rfl, e35 _ _ hfo', ?_⟩
        rw [hnx]
        exact hbu.ext e35
    · rintro p σ' H' ⟨np, hp2, bt, qs, v4, v5, v6, v7, v8, rfl, hfo', hbu⟩
      have elen : ((M.lamps.map (·.1)).map V.int).length = M.lamps.length := by rw [List.length_map, List.length_map]
      rw [elen] at hbu
      have e : Ex H H' := fun a o ha => bt a o (e02 _ _ ha) (ne_of_none ha nfo)
      exact s_ret (ev_var rfl) fun H3 e3 => k fo qs H3 nfo (e.trans e3) (e3 _ _ hfo') (hbu.ext e3)
end
end Hs
namespace Hs
open PySem PySem.Spec PyProof.Rows L2 Evl
/-! ### deeds laid one behind another -/
def numF {α : Type} : Int → List α → List (Int × α)
  | _, [] => []
  | k, x :: r => (k, x) :: numF (k + 1) r
theorem numF_snoc {α : Type} : ∀ (xs : List α) (k : Int) (x : α), numF k (xs ++ [x]) = numF k xs ++ [(k + xs.length, x)]
  | [], k, x => by
    show [(k, x)] = [(k + (0 : Nat), x)]
    rw [Int.natCast_zero, Int.add_zero]
  | y :: r, k, x => by
    show (k, y) :: numF (k + 1) (r ++ [x]) = (k, y) :: (numF (k + 1) r ++ [_])
    rw [numF_snoc r (k + 1) x]
    congr 4
    show k + 1 + (r.length : Int) = k + ((r.length + 1 : Nat) : Int)
    omega
theorem numF_snd {α : Type} : ∀ (xs : List α) (k : Int), (numF k xs).map (fun x => x.2) = xs
  | [], _ => rfl
  | y :: r, k => by
    show y :: (numF (k + 1) r).map _ = _
    rw [numF_snd r (k + 1)]
theorem numF_len {α : Type} (xs : List α) (k : Int) : (numF k xs).length = xs.length := by
  have h := congrArg List.length (numF_snd xs k)
  rw [List.length_map] at h
  exact h
def Deed.l : Deed → Option Chc
  | .lamp c => some c
  | _ => none
def Deed.p : Deed → Option Blk
  | .post B => some B
  | _ => none
def Deed.n : Deed → Option Pan
  | .pane a b z => some (a, b, z)
  | _ => none
def lampsD (Ds : List Deed) : List Chc := Ds.filterMap Deed.l
def postsD (Ds : List Deed) : List Blk := Ds.filterMap Deed.p
def panesD (Ds : List Deed) : List Pan := Ds.filterMap Deed.n
def lsD (Ds : List Deed) : List (List Chc × Bool) := (lampsD Ds).map fun c => ([c], true)
def f2D (Ds : List Deed) : List Fig := (postsD Ds).map Fig.post
def figN (N : Pan) : Fig := .pane N.1 N.2.1 N.2.2
def f3D (Ds : List Deed) : List Fig := (panesD Ds).map figN
theorem lsD_snoc {Ds : List Deed} {D : Deed} : D.lamps (lsD Ds) = lsD (Ds ++ [D]) := by
  unfold lsD lampsD
  rw [List.filterMap_append, List.map_append]
  cases D <;> simp [Deed.l, Deed.lamps]
theorem f2D_snoc {Ds : List Deed} {D : Deed} : D.posts (f2D Ds) = f2D (Ds ++ [D]) := by
  unfold f2D postsD
  rw [List.filterMap_append, List.map_append]
  cases D <;> simp [Deed.p, Deed.posts]
theorem f3D_snoc {Ds : List Deed} {D : Deed} : D.panes (f3D Ds) = f3D (Ds ++ [D]) := by
  unfold f3D panesD
  rw [List.filterMap_append, List.map_append]
  cases D <;> simp [Deed.n, Deed.panes, figN]
def oneL (c : Chc) : LM := ([c], 0, 0, true)
def mdOf (Ds : List Deed) : Md := ⟨numF 1 ((lampsD Ds).map oneL), numF 1 (postsD Ds), numF 1 (panesD Ds), [], (lampsD Ds).length + 1, (postsD Ds).length + 1, (panesD Ds).length + 1, 1⟩
theorem mdOf_nil : mdOf [] = Md.new := rfl
theorem mdOf_snoc {Ds : List Deed} {D : Deed} : (mdOf Ds).put D = mdOf (Ds ++ [D]) := by
  unfold mdOf lampsD postsD panesD
  rw [List.filterMap_append, List.filterMap_append, List.filterMap_append]
  cases D with
  | lamp c =>
    simp only [Md.put, Deed.l, Deed.p, Deed.n, List.filterMap_cons, List.filterMap_nil, List.append_nil, List.map_append, List.map_cons, List.map_nil, numF_snoc, List.length_map, List.length_append, List.length_singleton]
    congr 1
    · congr 3
      omega
  | post B =>
    simp only [Md.put, Deed.l, Deed.p, Deed.n, List.filterMap_cons, List.filterMap_nil, List.append_nil, List.map_append, List.map_cons, List.map_nil, numF_snoc, List.length_map, List.length_append, List.length_singleton]
    congr 1
    · congr 3
      omega
  | pane a b z =>
    simp only [Md.put, Deed.l, Deed.p, Deed.n, List.filterMap_cons, List.filterMap_nil, List.append_nil, List.map_append, List.map_cons, List.map_nil, numF_snoc, List.length_map, List.length_append, List.length_singleton]
    congr 1
    · congr 3
      omega
def CapD (Ds : List Deed) (L P N : Nat) : Prop := (lampsD Ds).length ≤ L ∧ (postsD Ds).length ≤ P ∧ (panesD Ds).length ≤ N
theorem CapD.take {Ds : List Deed} {L P N : Nat} (h : CapD Ds L P N) (i : Nat) : CapD (Ds.take i) L P N := by
  have e : Ds = Ds.take i ++ Ds.drop i := (List.take_append_drop i Ds).symm
  unfold CapD lampsD postsD panesD at h ⊢
  rw [e, List.filterMap_append, List.filterMap_append, List.filterMap_append, List.length_append, List.length_append, List.length_append] at h
  omega
def DeedsP (H : Hp) (zs : List (Addr × Deed)) : Prop := ∀ z ∈ zs, H z.1 = some (.tup z.2.vals)
def refsD (zs : List (Addr × Deed)) : List V := zs.map fun z => .ref z.1
theorem Kept.refl {H : Hp} {h p q : Addr} : Kept H H h p q := fun _ _ e _ _ _ => e
theorem Kept.trans {H H1 H2 : Hp} {h p q : Addr} (a : Kept H H1 h p q) (b : Kept H1 H2 h p q) : Kept H H2 h p q := fun x o e n1 n2 n3 => b x o (a x o e n1 n2 n3) n1 n2 n3
theorem Kept.of {H H1 : Hp} {h p q : Addr} (e : Ex H H1) : Kept H H1 h p q := fun x o z _ _ _ => e x o z
theorem HsB.ins {K : PySem.W.Frag} {C : Addr} {n : Nat} {H : Hp} {h dx p q : Addr} {m : Nat} {ls : List (List Chc × Bool)} {F2 F3 : List Fig} (a : HsB K C n H h dx p q m ls F2 F3) : ∃ fs, H h = some (.ins C dx fs) ∧ fs.lookup ("do" : Str) = none ∧ fs.lookup ("light" : Str) = none := by
  obtain ⟨s, fl, lk, cm, b, q2, q3, ts, t2, t3, ps, h1, _⟩ := a.ex
  exact ⟨_, h1, rfl, rfl⟩
theorem HsB.lsts {K : PySem.W.Frag} {C : Addr} {n : Nat} {H : Hp} {h dx p q : Addr} {m : Nat} {ls : List (List Chc × Bool)} {F2 F3 : List Fig} (a : HsB K C n H h dx p q m ls F2 F3) : (∃ xs, H p = some (.lst xs)) ∧ ∃ xs, H q = some (.lst xs) := by
  obtain ⟨s, fl, lk, cm, b, q2, q3, ts, t2, t3, ps, _, h2, _, h4, _⟩ := a.ex
  exact ⟨⟨_, h2⟩, _, h4⟩
theorem HsB.ext {K : PySem.W.Frag} {C : Addr} {n : Nat} {H H' : Hp} {h dx p q : Addr} {m : Nat} {ls : List (List Chc × Bool)} {F2 F3 : List Fig} (a : HsB K C n H h dx p q m ls F2 F3) (e : Ex H H') : HsB K C n H' h dx p q m ls F2 F3 := a.keep (Kp.of e) (fun _ z => e _ _ z) (fun _ z => e _ _ z) (fun _ z => e _ _ z) (Nat.le_refl _)
theorem HsB.kp {K : PySem.W.Frag} {C : Addr} {n : Nat} {H H' : Hp} {h dx p q : Addr} {m : Nat} {ls : List (List Chc × Bool)} {F2 F3 : List Fig} (a : HsB K C n H h dx p q m ls F2 F3) (k : Kept H H' h p q) : Kp H H' := by
  obtain ⟨fs, h1, _⟩ := a.ins
  obtain ⟨⟨_, h2⟩, _, h3⟩ := a.lsts
  exact k.kp h1 h2 h3
def spLaid (K : PySem.W.Frag) (C : Addr) (n : Nat) : Sp := fun vs H Q _ => ∃ (h m a dx p q : Addr) (k : Nat) (zs : List (Addr × Deed)), vs = [.ref h, .ref m, .ref a] ∧ HsB K C n H h dx p q k [] [] [] ∧ MdA K n H m Md.new ∧ H a = some (.lst (refsD zs)) ∧ a ≠ p ∧ a ≠ q ∧ DeedsP H zs ∧ (∀ z ∈ zs, z.2.good n) ∧ CapD (zs.map (·.2)) 12 12 12 ∧ k + zs.length ≤ 400 ∧
  ∀ m' H', Kept H H' h p q → HsB K C n H' h dx p q (k + zs.length) (lsD (zs.map (·.2))) (f2D (zs.map (·.2))) (f3D (zs.map (·.2))) → MdA K n H' m' (mdOf (zs.map (·.2))) → Q (.ref m') H'
section
variable {P : Program} {w : World} {K : PySem.W.Frag} {mg : Str → Option Value} {base : Heap} {f C : Addr} {fd : FuncData} {n : Nat}
abbrev sLaid : Stmt := top 130
theorem scLaid : FnScope ["_law_house", "_law_m", "_law_deeds", "_law_deed"] ["_law_house", "_law_m", "_law_deeds"] (defScope sLaid) := ⟨rfl, rfl, rfl, by decide +kernel, rfl, by decide +kernel, by decide +kernel⟩
theorem ok_laid (F : FnP K "_law_laid" sLaid f fd) (M_do : MetX P w K mg base 7 C "do" ["self", "deed"] [] (spDoH K C n)) (O__law_after_put : Own P w K mg base 3 "_law_after_put" ["_law_m", "_law_deed"] (spAfter K n)) : FnOk P w K mg base CX0 8 f fd ["_law_house", "_law_m", "_law_deeds"] (spLaid K C n) := by
  have nd := scLaid.nd
  refine F.ok scLaid (fun vs H Q E h => ?_) (fun cdv A outer s H vs Q E hr h => ⟨_, PSs.nox (pss_cons (ps_for PassesOwn.never rfl (pi_list (pv 2)) (pg_name (i := 3) nd rfl (.inl rfl)) (pss_cons (ps_expr (Hs.pe_metX (E := E0) M_do hr (by decide) passL (pv 0) (pa_cons (pv 3) pa_nil)))
  (pss_one (ps_set (i := 1) nd rfl (.inl rfl) (Hs.pe_own O__law_after_put hr (by first | decide | omega) (by rfl) (pa_cons (pv 1) (pa_cons (pv 3) pa_nil)))))))
  (pss_one (ps_ret (pv 1)))), ?_⟩)
  · obtain ⟨h, m, a, dx, p, q, k, zs, rfl, _⟩ := h
    rfl
  · obtain ⟨h, m, a, dx, p, q, k, zs, rfl, hH, hM, ha, nap, naq, hD, hg, hcap, hk, kk⟩ := h
    obtain ⟨fs0, hh0, _⟩ := hH.ins
    have nah : a ≠ h := ne_of ha hh0 (by intro z; cases z)
    refine q_forLn (K := K) (ev_var rfl) (sq_of ha) (fun i σ' H' => ∃ (m' : Addr) (v3 : Option V), σ' = [some (.ref h), some (.ref m'), some (.ref a), v3] ∧ Kept H H' h p q ∧ HsB K C n H' h dx p q (k + i) (lsD ((zs.map (·.2)).take i)) (f2D ((zs.map (·.2)).take i)) (f3D ((zs.map (·.2)).take i)) ∧ MdA K n H' m' (mdOf ((zs.map (·.2)).take i))) ?_ ?_ ?_ ?_
    · intro H1 e1
      exact ⟨m, none, rfl, Kept.of e1, hH.ext e1, hM.ext e1⟩
    · rintro i σ' H' _ ⟨m', v3, rfl, kt, _⟩
      exact sq_of (kt _ _ ha nah nap naq)
    · rintro i x σ' H' hx ⟨m', v3, rfl, kt, hH', hM'⟩
      unfold refsD at hx
      rw [List.getElem?_map] at hx
      obtain ⟨⟨d, D⟩, hz, rfl⟩ := Option.map_eq_some_iff.mp hx
      have hmem := List.mem_of_getElem? hz
      have hi := (List.getElem?_eq_some_iff.mp hz).1
      have hDi : (zs.map (·.2))[i]? = some D := by rw [List.getElem?_map, hz] <;> rfl
      have hnext : (zs.map (·.2)).take (i + 1) = (zs.map (·.2)).take i ++ [D] := by rw [List.take_add_one, hDi] <;> rfl
      have hc1 := hcap.take (i + 1)
      rw [hnext] at hc1
      obtain ⟨c1, c2, c3⟩ := hc1
      unfold lampsD at c1
      unfold postsD at c2
      unfold panesD at c3
      rw [List.filterMap_append, List.length_append] at c1 c2 c3
      have hgood := hg _ hmem
      have kp := hH.kp kt
      have hd' := kp.tup (hD _ hmem)
      obtain ⟨fs, hh, hf, _⟩ := hH'.ins
      have room : D.room (lsD ((zs.map (·.2)).take i)) (f2D ((zs.map (·.2)).take i)) (f3D ((zs.map (·.2)).take i)) := by
        cases D with
        | lamp c =>
          show (lsD _).length < 12
          unfold lsD lampsD
          rw [List.length_map]
          simp [Deed.l] at c1
          omega
        | post B =>
          show (f2D _).length < 12
          unfold f2D postsD
          rw [List.length_map]
          simp [Deed.p] at c2
          omega
        | pane u v z =>
          show (f3D _).length < 12
          unfold f3D panesD
          rw [List.length_map]
          simp [Deed.n] at c3
          omega
      dsimp only [List.set]
      refine ⟨_, rfl, h, dx, fs, rfl, hh, hf, _, rfl, h, d, dx, p, q, k + i, _, _, _, D, rfl, st_of hd', hgood, room, hH', by omega, fun v H2 k2 a2 => ?_⟩
      have kt2 := kt.trans k2
      have kp2 := hH'.kp k2
      refine ⟨_, rfl, _, rfl, m', d, mdOf ((zs.map (·.2)).take i), D, rfl, hM'.keep kp2, st_of (kp2.tup hd'), hgood, ?_, ?_, ?_, fun a' H3 na e3 hM3 => ?_⟩
      · show (numF 1 _).length < 30
        rw [numF_len, List.length_map]
        unfold lampsD
        omega
      · show (numF 1 _).length < 30
        rw [numF_len]
        unfold postsD
        omega
      · show (numF 1 _).length < 30
        rw [numF_len]
        unfold panesD
        omega
      · refine ⟨a', _, rfl, fun x o z n1 n2 n3 => e3 _ _ (kt2 x o z n1 n2 n3), ?_, ?_⟩
        · have a3 := a2.ext e3
          rw [lsD_snoc, f2D_snoc, f3D_snoc] at a3
          rw [hnext]
          exact a3
        · rw [mdOf_snoc] at hM3
          rw [hnext]
          exact hM3
    · rintro σ' H' ⟨m', v3, rfl, kt, hH', hM'⟩
      have elen : (refsD zs).length = (zs.map (·.2)).length := by
        unfold refsD
        rw [List.length_map, List.length_map]
      rw [elen, List.take_length] at hM' hH'
      rw [List.length_map] at hH'
      exact s_ret (ev_var rfl) fun H3 e3 => kk m' H3 (fun x o z n1 n2 n3 => e3 _ _ (kt x o z n1 n2 n3)) (hH'.ext e3) (hM'.ext e3)
end
/-! ### the deeds of a floor -/
def spFloorD : Sp := fun vs H Q _ => ∃ (b l g : Addr) (ns : List Int) (n : Nat) (w x y : Int) (L P N : Nat), vs = [.ref b, .ref g, .int (L : Int), .int (P : Int), .int (N : Int)] ∧ BagAt H b l ns n ∧ n < 600000 ∧ H g = some (.tup [.int w, .int x, .int y]) ∧ Grid w x y ∧ L ≤ 12 ∧ P ≤ 12 ∧ N ≤ 12 ∧
  ∀ (p : Addr) (zs : List (Addr × Deed)) (H' : Hp), H p = none → H' p = some (.lst (refsD zs)) → DeedsP H' zs → (∀ z ∈ zs, z.2.near) → CapD (zs.map (·.2)) L P N → zs.length ≤ 36 → BagAt H' b l ns (n + 500) → But H H' b → Q (.ref p) H'
theorem perm_map {α β : Type} (f : α → β) {ys : List β} {xs : List β} (h : ys.Perm xs) : ∀ zs : List α, xs = zs.map f → ∃ zs' : List α, zs'.Perm zs ∧ ys = zs'.map f := by
  induction h with
  | nil =>
    intro zs e
    cases zs with
    | nil => exact ⟨[], List.Perm.nil, rfl⟩
    | cons a r => cases e
  | cons x p ih =>
    intro zs e
    cases zs with
    | nil => cases e
    | cons a r =>
      rw [List.map_cons] at e
      injection e with e1 e2
      obtain ⟨z', p', e'⟩ := ih r e2
      exact ⟨a :: z', p'.cons a, by rw [List.map_cons, e1, e']⟩
  | swap x y l =>
    intro zs e
    match zs, e with
    | [], e => cases e
    | [a], e => cases e
    | a :: c :: r, e =>
      rw [List.map_cons, List.map_cons] at e
      injection e with e1 e2
      injection e2 with e2 e3
      exact ⟨c :: a :: r, .swap .., by rw [List.map_cons, List.map_cons, e1, e2, e3]⟩
  | trans p1 p2 ih1 ih2 =>
    intro zs e
    obtain ⟨z2, q2, e2⟩ := ih2 zs e
    obtain ⟨z1, q1, e1⟩ := ih1 z2 e2
    exact ⟨z1, q1.trans q2, e1⟩
theorem CapD.perm {As Bs : List Deed} {L P N : Nat} (h : CapD Bs L P N) (p : As.Perm Bs) : CapD As L P N := by
  unfold CapD lampsD postsD panesD at h ⊢
  rw [(p.filterMap Deed.l).length_eq, (p.filterMap Deed.p).length_eq, (p.filterMap Deed.n).length_eq]
  exact h
def capAt (i : Nat) (L P N : Nat) : Nat × Nat × Nat := (if 0 < i then L else 0, if 1 < i then P else 0, if 2 < i then N else 0)
def wdAt : Nat → Str
  | 0 => "lamp"
  | 1 => "post"
  | _ => "pane"
theorem cap_one {Ds Es : List Deed} {L P N : Nat} {wd : Str} {i : Nat} (hi : i < 3) (hw : wd = wdAt i) (h : CapD Ds (capAt i L P N).1 (capAt i L P N).2.1 (capAt i L P N).2.2) (hE : ∀ D ∈ Es, D.wd = wd) (hm : Es.length ≤ [L, P, N].getD i 0) : CapD (Ds ++ Es) (capAt (i + 1) L P N).1 (capAt (i + 1) L P N).2.1 (capAt (i + 1) L P N).2.2 := by
  have z1 : wd ≠ "lamp" → (Es.filterMap Deed.l).length = 0 := fun hn => by
    rw [List.length_eq_zero_iff, List.filterMap_eq_nil_iff]
    intro D hD
    cases D with
    | lamp c => exact absurd (hE _ hD).symm hn
    | post B => rfl
    | pane a b z => rfl
  have z2 : wd ≠ "post" → (Es.filterMap Deed.p).length = 0 := fun hn => by
    rw [List.length_eq_zero_iff, List.filterMap_eq_nil_iff]
    intro D hD
    cases D with
    | lamp c => rfl
    | post B => exact absurd (hE _ hD).symm hn
    | pane a b z => rfl
  have z3 : wd ≠ "pane" → (Es.filterMap Deed.n).length = 0 := fun hn => by
    rw [List.length_eq_zero_iff, List.filterMap_eq_nil_iff]
    intro D hD
    cases D with
    | lamp c => rfl
    | post B => rfl
    | pane a b z => exact absurd (hE _ hD).symm hn
  have l1 := List.length_filterMap_le Deed.l Es
  have l2 := List.length_filterMap_le Deed.p Es
  have l3 := List.length_filterMap_le Deed.n Es
  unfold CapD lampsD postsD panesD at h ⊢
  rw [List.filterMap_append, List.filterMap_append, List.filterMap_append, List.length_append, List.length_append, List.length_append]
  match i, hi with
  | 0, _ =>
    have y2 := z2 (by rw [hw]; decide +kernel)
    have y3 := z3 (by rw [hw]; decide +kernel)
    have h' : (Ds.filterMap Deed.l).length ≤ 0 ∧ (Ds.filterMap Deed.p).length ≤ 0 ∧ (Ds.filterMap Deed.n).length ≤ 0 := h
    have hm' : Es.length ≤ L := hm
    show (Ds.filterMap Deed.l).length + (Es.filterMap Deed.l).length ≤ L ∧ (Ds.filterMap Deed.p).length + (Es.filterMap Deed.p).length ≤ 0 ∧ (Ds.filterMap Deed.n).length + (Es.filterMap Deed.n).length ≤ 0
    omega
  | 1, _ =>
    have y1 := z1 (by rw [hw]; decide +kernel)
    have y3 := z3 (by rw [hw]; decide +kernel)
    have h' : (Ds.filterMap Deed.l).length ≤ L ∧ (Ds.filterMap Deed.p).length ≤ 0 ∧ (Ds.filterMap Deed.n).length ≤ 0 := h
    have hm' : Es.length ≤ P := hm
    show (Ds.filterMap Deed.l).length + (Es.filterMap Deed.l).length ≤ L ∧ (Ds.filterMap Deed.p).length + (Es.filterMap Deed.p).length ≤ P ∧ (Ds.filterMap Deed.n).length + (Es.filterMap Deed.n).length ≤ 0
    omega
  | 2, _ =>
    have y1 := z1 (by rw [hw]; decide +kernel)
    have y2 := z2 (by rw [hw]; decide +kernel)
    have h' : (Ds.filterMap Deed.l).length ≤ L ∧ (Ds.filterMap Deed.p).length ≤ P ∧ (Ds.filterMap Deed.n).length ≤ 0 := h
    have hm' : Es.length ≤ N := hm
    show (Ds.filterMap Deed.l).length + (Es.filterMap Deed.l).length ≤ L ∧ (Ds.filterMap Deed.p).length + (Es.filterMap Deed.p).length ≤ P ∧ (Ds.filterMap Deed.n).length + (Es.filterMap Deed.n).length ≤ N
    omega
theorem DeedsP.but {H H' : Hp} {b l : Addr} {ns : List Int} {n : Nat} {zs : List (Addr × Deed)} (h : DeedsP H zs) (B : BagAt H b l ns n) (e : But H H' b) : DeedsP H' zs := fun z hz => e.tup B (h z hz)
theorem DeedsP.updL {H : Hp} {p : Addr} {xs : List V} {o : HO} {zs : List (Addr × Deed)} (h : DeedsP H zs) (hp : H p = some (.lst xs)) : DeedsP (upd H p o) zs := fun z hz => by
  rw [upd_ne (ne_of (h z hz) hp (by intro w; cases w))]
  exact h z hz
theorem DeedsP.ext {H H' : Hp} {zs : List (Addr × Deed)} (h : DeedsP H zs) (e : Ex H H') : DeedsP H' zs := fun z hz => e _ _ (h z hz)
end Hs
namespace Hs
open PySem PySem.Spec PyProof.Rows L2
theorem list_extend_tup (l : Addr) (items : Array Value) (n : Nat) (b : Addr) (items2 : Array Value) (n2 : Nat) (dd : Option Addr) (sl : Array (Option Value)) (hs0 : ¬(!items.isEmpty && Builtin.List.listTooLong (items.size + items2.size)) = true) (hs1 : items.size ≤ sizeLine) (hs2 : items.size + items2.size ≤ sizeLine + 1) :
    Meets (Builtin.«list.extend» ⟨[.ref l, .ref b], []⟩) (fun _ R s => s.heap.get? l = some { cls := .type "list", dict := none, data := .seq items n, slots := #[] } ∧ s.heap.get? b = some { cls := .type "tuple", dict := dd, data := .seq items2 n2, slots := sl } ∧ R (.ok (.ret Value.none)) { s with heap := s.heap.update l (Obj.mapSeq fun x => x ++ items2), toks := s.toks }) :=
  .of_wp fun prog w A R s h => by
    obtain ⟨hp, g, d, tk, os⟩ := s; obtain ⟨hl, hb, h⟩ := h; have f1 := AutoSeq1.idx_int; have f2 := AutoSeq1.sub_tuple_tuple; have f3 := AutoSeq1.sub_list_list; have f4 := AutoSeq1.sub_tuple_list; have f5 := AutoSeq1.sub_list_tuple;
    have hz' : (items ++ items2).size ≤ sizeLine + 1 := by rw [Array.size_append]; exact hs2
    wp_walk using (wpAny_updateSeq hl rfl (hz := hs1) (_hz' := hz')), wpAny_loadPart' hl, wpAny_loadPart' hb; exact ⟨_, rfl, h⟩
def rExtT (K : PySem.W.Frag) : V → List V → Hp → VK → Prop := fun x vs H Q => ∃ l b xs zs, x = .ref l ∧ vs = [.ref b] ∧ H l = some (.lst xs) ∧ SqT K H b zs ∧ xs.length + zs.length ≤ sizeLine ∧ Q .non (upd H l (.lst (xs ++ zs)))
theorem mt_extT {X : Cx} : MtM X "list.extend" (rExtT X.K) := by
  intro pins s σ H x vs v us Q I rx rv h
  obtain ⟨l, b, xs, zs, rfl, rfl, hH, hB, hz, q⟩ := h
  cases rx
  obtain ⟨u, rfl, ru⟩ := rv.one
  cases ru
  obtain ⟨z, its, n, r, hl, e⟩ := I.lstM hH
  obtain ⟨its2, r2, ⟨⟨cls, dd, data, sl⟩, ho, hc, n2, hd⟩, hs⟩ := I.tuple hB
  simp only at hc hd
  subst hc hd
  have hl2 : zs.length = its2.length := r2.length
  have hsz : its.toArray.size + its2.toArray.size ≤ sizeLine := by rw [List.size_toArray, List.size_toArray]; omega
  have hlong : ¬ (!its.toArray.isEmpty && Builtin.List.listTooLong (its.toArray.size + its2.toArray.size)) = true := by
    rw [notLongL hsz, Bool.and_false]
    exact Bool.false_ne_true
  refine call_meets F.slot_list_extend ⟨_, e, rfl⟩ F.entry_list_extend (F.args_list_extend_2 _ _)
    (list_extend_tup l its.toArray n b its2.toArray n2 dd sl hlong (by rw [List.size_toArray]; omega) (by omega)) ⟨e, ho, ?_⟩
  refine ⟨.non, _, I.lset (its' := its ++ its2) hH e (by simp) (r.append r2) ?_, rfl, q⟩
  rw [List.length_append]
  omega
end Hs
namespace Hs
open PySem PySem.Spec PyProof.Rows L2 Evl
/-- a new object of an own class -/
structure MkX (P : Program) (w : World) (K : PySem.W.Frag) (mg : Str → Option Value) (base : Heap) (k : Nat) (x : Str) (C : Addr) (ps : List Str) (sp : Sp) : Prop where
  ex : ∃ (f : Addr) (fd : FuncData), Mk K C f ∧ FnOk P w K mg base CX0 k f fd ps sp ∧ mg x = some (.ref C) ∧ Binds K fd ps []
theorem pe_mkX {X : Cx} {k j : Nat} {x : Str} {C : Addr} {ps : List Str} {sp : Sp} {p pos : Pos} (M : MkX X.prog X.w X.K X.mg X.base k x C ps sp) (hr : Room j X.A) (hk : k + 1 ≤ j) (hg : Gl X x) (hdb : (x == ("__debug__" : Str)) = false := by decide) : PE X (.Call (.Name x p) [] [] pos) (tMake C sp [] E0 tNil) := by
  obtain ⟨f, fd, mk, F, m, b⟩ := M.ex
  exact pe_make0 mk F (hr.mono hk) hg m b .nil pass0 hdb
end Hs
namespace Hs
open PySem PySem.Spec PyProof.Rows L2 Evl
section
variable {P : Program} {w : World} {K : PySem.W.Frag} {mg : Str → Option Value} {base : Heap} {f C : Addr} {fd : FuncData} {n : Nat}
abbrev sFloorD : Stmt := top 131
theorem scFloorD : FnScope ["_law_bag_here", "_law_grid_here", "_law_lamps", "_law_posts", "_law_panes", "_law_found", "_law_word", "_law_upto", "_law_k"] ["_law_bag_here", "_law_grid_here", "_law_lamps", "_law_posts", "_law_panes"] (defScope sFloorD) := ⟨rfl, rfl, rfl, by decide +kernel, rfl, by decide +kernel, by decide +kernel⟩
theorem wdAt_in {i : Nat} (h : i < 3) : wdAt i = "lamp" ∨ wdAt i = "post" ∨ wdAt i = "pane" := match i, h with
  | 0, _ => .inl rfl
  | 1, _ => .inr (.inl rfl)
  | 2, _ => .inr (.inr rfl)
theorem refsD_app (a b : List (Addr × Deed)) : refsD a ++ refsD b = refsD (a ++ b) := (List.map_append ..).symm
theorem bag_kp {H H' : Hp} {b l : Addr} {ns : List Int} {n : Nat} (B : BagAt H b l ns n) (e : But H H' b) : Kp H H' := let ⟨_, h⟩ := bag_lst B; Kp.but h e
theorem ok_floorD (F : FnP K "_law_floor_deeds" sFloorD f fd) (O__law_pull : Own P w K mg base 1 "_law_pull" ["_law_bag_here", "_law_many"] spPull) (O__law_thing_deed : Own P w K mg base 4 "_law_thing_deed" ["_law_bag_here", "_law_grid_here", "_law_word"] spThingD) (O__law_mixed : Own P w K mg base 2 "_law_mixed" ["_law_bag_here", "_law_some"] (spMixed K)) (g_range : mg "range" = none) : FnOk P w K mg base CX0 5 f fd ["_law_bag_here", "_law_grid_here", "_law_lamps", "_law_posts", "_law_panes"] spFloorD := by
  have nd := scFloorD.nd
  refine F.ok scFloorD (fun vs H Q E h => ?_) (fun cdv A outer s H vs Q E hr h => ⟨_, PSs.nox (pss_cons (ps_set (i := 5) nd rfl (.inl rfl) (pe_lst pa_nil))
  (pss_cons (ps_for PassesOwn.never rfl (pi_tup (pe_tup (pa_cons (pe_tup (pa_cons pe_str (pa_cons (pv 2) pa_nil))) (pa_cons (pe_tup (pa_cons pe_str (pa_cons (pv 3) pa_nil))) (pa_cons (pe_tup (pa_cons pe_str (pa_cons (pv 4) pa_nil))) pa_nil))))) (pg_tup rfl (pgs_cons (pg_name (i := 6) nd rfl (.inr rfl)) (pgs_cons (pg_name (i := 7) nd rfl (.inl rfl)) pgs_nil))) (pss_one (ps_expr (pe_bm PySem.F.plainAttrs_list PySem.F.slot_list_extend PySem.F.type_list_extend mt_extend (pv 5) (pa_cons (pe_lc (own := [("_law_k", 8)]) rfl nd (pi_range1 (by rfl) g_range (pa_cons (Hs.pe_own O__law_pull hr (by first | decide | omega) (by rfl) (pa_cons (pv 0) (pa_cons (pe_op op_add (pv 7) pe_int) pa_nil))) pa_nil)) (blkOk_by (N := ["_law_bag_here", "_law_grid_here", "_law_lamps", "_law_posts", "_law_panes", "_law_found", "_law_word", "_law_upto", "_law_k"]) (sc := defScope (Hs.top 131)) (by decide +kernel)) (fun _ _ _ _ _ => (pg_name (i := 8) nd rfl (Or.inl rfl))) (fun _ _ _ _ _ => pts_nil) (fun _ _ _ _ _ => (Hs.pe_own O__law_thing_deed hr (by first | decide | omega) (by rfl) (pa_cons (pv 0) (pa_cons (pv 1) (pa_cons (pv 6) pa_nil)))))) pa_nil)))))
  (pss_one (ps_ret (Hs.pe_own O__law_mixed hr (by first | decide | omega) (by rfl) (pa_cons (pv 0) (pa_cons (pv 5) pa_nil))))))), ?_⟩)
  · obtain ⟨b, l, g, ns, n, w, x, y, L, Pc, N, rfl, _⟩ := h
    rfl
  · obtain ⟨b, l, g, ns, n, w, x, y, L, Pc, N, rfl, B, hn, hg, G, hL, hP, hN, k⟩ := h
    refine q_asgL (xs := []) (el_lst ea_nil (by simp)) fun fo H1 nfo e1 hfo => ?_
    dsimp only [List.set]
    have nfb : fo ≠ b := bag_ne B nfo
    have nfl : fo ≠ l := Ne.symm (ne_of_none B.ls nfo)
    refine ⟨_, rfl, sz_of (by simp), fun t1 ht1 => ⟨_, rfl, sz_of (by simp), fun t2 ht2 => ⟨_, rfl, sz_of (by simp), fun t3 ht3 => ⟨sz_of (by simp), fun tt htt => ⟨tt, rfl, ⟨_, st_of upd_same⟩, ?_⟩⟩⟩⟩⟩
    have x4 := Ex.new (o := .tup [V.ref t1, .ref t2, .ref t3]) htt
    have x3 := (Ex.new (o := .tup [V.str "pane", .int (N : Int)]) ht3).trans x4
    have x2 := (Ex.new (o := .tup [V.str "post", .int (Pc : Int)]) ht2).trans x3
    have x1 := (Ex.new (o := .tup [V.str "lamp", .int (L : Int)]) ht1).trans x2
    have f1 := x2 _ _ (upd_same (H := H1) (a := t1) (o := .tup [V.str "lamp", .int (L : Int)]))
    have f2 := x3 _ _ (upd_same (H := upd H1 t1 (.tup [V.str "lamp", .int (L : Int)])) (a := t2) (o := .tup [V.str "post", .int (Pc : Int)]))
    have f3 := x4 _ _ (upd_same (H := upd (upd H1 t1 (.tup [V.str "lamp", .int (L : Int)])) t2 (.tup [V.str "post", .int (Pc : Int)])) (a := t3) (o := .tup [V.str "pane", .int (N : Int)]))
    have f4 := upd_same (H := upd (upd (upd H1 t1 (.tup [V.str "lamp", .int (L : Int)])) t2 (.tup [V.str "post", .int (Pc : Int)])) t3 (.tup [V.str "pane", .int (N : Int)])) (a := tt) (o := .tup [V.ref t1, .ref t2, .ref t3])
    have e02 := e1.trans x1
    have hfo2 := x1 _ _ hfo
    generalize upd (upd (upd (upd H1 t1 (.tup [V.str "lamp", .int (L : Int)])) t2 (.tup [V.str "post", .int (Pc : Int)])) t3 (.tup [V.str "pane", .int (N : Int)])) tt (.tup [V.ref t1, .ref t2, .ref t3]) = H2 at f1 f2 f3 f4 e02 hfo2 ⊢
    have hg2 := e02 _ _ hg
    have B2 := B.ext (m := n) e02 (Nat.le_refl _)
    refine for_it walk_tup (fun i σ' H' => ∃ (v6 v7 : Option V) (zs : List (Addr × Deed)), σ' = [some (.ref b), some (.ref g), some (.int (L : Int)), some (.int (Pc : Int)), some (.int (N : Int)), some (.ref fo), v6, v7, none] ∧ BagAt H' b l ns (n + 130 * i) ∧ But H H' b ∧ Kp H2 H' ∧ H' fo = some (.lst (refsD zs)) ∧ DeedsP H' zs ∧ (∀ z ∈ zs, z.2.near) ∧ CapD (zs.map (·.2)) (capAt i L Pc N).1 (capAt i L Pc N).2.1 (capAt i L Pc N).2.2 ∧ zs.length ≤ 12 * i) ⟨none, none, [], rfl, B2, But.of e02, Kp.of (Ex.refl _), hfo2, (fun z hz => by cases hz), (fun z hz => by cases hz), ⟨Nat.zero_le _, Nat.zero_le _, Nat.zero_le _⟩, Nat.zero_le _⟩ (fun i σ' H' _ ⟨v6, v7, zs, _, _, _, kp, _⟩ => st_of (kp.tup f4)) (fun i x σ' H' H'' hi p yy => ?_) (fun σ' H' p => ?_)
    · obtain ⟨v6, v7, zs, rfl, Bi, bi, kp, hfo', hD, hnear, hcap, hlen⟩ := p
      obtain ⟨rfl, hx⟩ := yy
      have hi3 : i < 3 := hi
      obtain ⟨t, c, rfl, ht, hc, hc12⟩ : ∃ (t : Addr) (c : Nat), x = .ref t ∧ H2 t = some (.tup [.str (wdAt i), .int (c : Int)]) ∧ c = [L, Pc, N].getD i 0 ∧ c ≤ 12 := by
        match i, hi3, hx with
        | 0, _, hx => cases hx; exact ⟨t1, L, rfl, f1, rfl, hL⟩
        | 1, _, hx => cases hx; exact ⟨t2, Pc, rfl, f2, rfl, hP⟩
        | 2, _, hx => cases hx; exact ⟨t3, N, rfl, f3, rfl, hN⟩
      have hwd := wdAt_in hi3
      refine ⟨t, _, rfl, st_of (kp.tup ht), rfl, _, _, rfl, _, _, rfl, rfl, ?_⟩
      dsimp only [gName, List.set]
      refine ⟨_, rfl, .inl ⟨rfl, _, sq_of hfo'⟩, _, rfl, _, rfl, _, _, rfl, rfl, b, l, ns, _, _, rfl, Bi, by omega, by omega, by omega, fun v H5 v0 v1 B5 b5 => ⟨v, rfl, by omega, by omega, fun Dl hDl => ?_⟩⟩
      have nDb := bag_ne B5 hDl
      have nDl : Dl ≠ l := Ne.symm (ne_of_none B5.ls hDl)
      have hfo5 := b5 _ _ hfo' nfb
      have nDf : fo ≠ Dl := ne_of_none hfo5 hDl
      have hg5 := (bag_kp Bi b5).tup (kp.tup hg2)
      refine lc_range (lo := 0) (n := v.toNat) (fun j H6 => BagAt H6 b l ns (n + 130 * i + 1 + 10 * j) ∧ But H5 H6 b ∧ ∃ es : List (Addr × Deed), H6 Dl = some (.lst (refsD es)) ∧ es.length = j ∧ DeedsP H6 es ∧ ∀ z ∈ es, z.2.near ∧ z.2.wd = wdAt i) ⟨B5.ext (Ex.new hDl) (by omega), But.of (Ex.new hDl), [], upd_same, rfl, (fun z hz => by cases hz), fun z hz => by cases hz⟩ (fun j H6 hj q => ⟨rfl, ?_⟩) (fun H6 q => ?_)
      · obtain ⟨B6, b6, es, hDl6, hel, hDe, hne⟩ := q
        simp only [tYes, if_true]
        refine ⟨_, rfl, _, rfl, _, rfl, b, l, g, ns, _, w, x, y, wdAt i, rfl, B6, by omega, (bag_kp B5 b6).tup hg5, G, hwd, fun p D H7 hDn hDw np hp B7 b7 => ?_⟩
        have hDl7 := b7 _ _ hDl6 nDb
        refine ⟨_, hDl7, sz_lt (by unfold refsD; rw [List.length_map]; omega), bag_upd (B7.ext (Ex.refl _) (by omega)) (Ne.symm nDb) (Ne.symm nDl), (b6.trans b7).upd2 hDl, es ++ [(p, D)], ?_, by rw [List.length_append, hel] <;> rfl, ?_, fun z hz => ?_⟩
        · rw [upd_same, ← refsD_app] <;> rfl
        · refine DeedsP.updL (fun z hz => ?_) hDl7
          rcases List.mem_append.mp hz with h | h
          · exact hDe.but B6 b7 z h
          · rw [List.mem_singleton.mp h]
            exact hp
        · rcases List.mem_append.mp hz with h | h
          · exact hne z h
          · rw [List.mem_singleton.mp h]
            exact ⟨hDn, hDw⟩
      · obtain ⟨B6, b6, es, hDl6, hel, hDe, hne⟩ := q
        have hfo6 := b6 _ _ hfo5 nfb
        refine ⟨fo, Dl, _, _, rfl, rfl, hfo6, hDl6, ?_, ?_⟩
        · unfold refsD
          rw [List.length_map, List.length_map]
          exact sz_of (by omega)
        · have kp6 := (bag_kp Bi b5).t
          have k06 : Kp H'' H6 := ⟨fun a xs h => (bag_kp B5 b6).t _ _ ((bag_kp Bi b5).t _ _ h), fun a od o h => (bag_kp B5 b6).f _ _ _ ((bag_kp Bi b5).f _ _ _ h)⟩
          have ku := Kp.upd (o := .lst (refsD zs ++ refsD es)) hfo6
          refine ⟨_, _, zs ++ es, rfl, bag_upd (B6.ext (Ex.refl _) (by omega)) (Ne.symm nfb) (Ne.symm nfl), ((bi.trans b5).trans b6).upd2 nfo, ⟨fun a xs h => ku.t _ _ (k06.t _ _ (kp.t _ _ h)), fun a od o h => ku.f _ _ _ (k06.f _ _ _ (kp.f _ _ _ h))⟩, by rw [upd_same, refsD_app], ?_, ?_, ?_, ?_⟩
          · refine DeedsP.updL (fun z hz => ?_) hfo6
            rcases List.mem_append.mp hz with h | h
            · exact k06.tup (hD z h)
            · exact hDe z h
          · intro z hz
            rcases List.mem_append.mp hz with h | h
            · exact hnear z h
            · exact (hne z h).1
          · rw [List.map_append]
            refine cap_one hi3 rfl hcap (fun D hDD => ?_) ?_
            · obtain ⟨z, hz, rfl⟩ := List.mem_map.mp hDD
              exact (hne z hz).2
            · rw [List.length_map, hel, ← hc]
              omega
          · rw [List.length_append]
            omega
    · obtain ⟨v6, v7, zs, rfl, Bi, bi, kp, hfo', hD, hnear, hcap, hlen⟩ := p
      have Bi3 : BagAt H' b l ns (n + 390) := Bi
      have hlen3 : zs.length ≤ 36 := hlen
      refine ⟨_, rfl, _, rfl, b, l, fo, ns, _, refsD zs, rfl, Bi3, by omega, sq_of hfo', by unfold refsD; rw [List.length_map]; omega, fun p ys H5 hperm np hp B5 b5 => ?_⟩
      obtain ⟨zs', hz', rfl⟩ := perm_map _ hperm zs rfl
      have hrl : (refsD zs).length = zs.length := List.length_map ..
      refine k p zs' H5 (bi.fresh Bi3 np) hp (fun z hz => (bag_kp Bi3 b5).tup (hD z (hz'.mem_iff.mp hz))) (fun z hz => hnear z (hz'.mem_iff.mp hz)) (CapD.perm hcap (hz'.map _)) (by rw [hz'.length_eq]; exact hlen3) (B5.ext (Ex.refl _) (by omega)) (bi.trans b5)
end
end Hs
namespace Hs
open PySem PySem.Spec PyProof.Rows L2 Evl
/-! ### the places that are looked at -/
theorem canLay_pts : ∀ zs : List Pt, PyData.canLayAll0 (zs.map PySem.W.Datum.toD) = true
  | [] => by simp only [List.map_nil, PyData.canLayAll0]
  | z :: r => by
    have e : PyData.canLay0 (PySem.W.Datum.toD z) = true := rfl
    rw [List.map_cons, PyData.canLayAll0, e, canLay_pts r] <;> rfl
theorem shaped_pts (zs : List Pt) : SeqAt.shaped (PySem.W.Datum.toD zs) = true := by
  unfold SeqAt.shaped
  have h1 : (PySem.W.Datum.toD zs).canLay0 = true := by
    show PyData.canLay0 (.list (zs.map PySem.W.Datum.toD)) = true
    rw [PyData.canLay0]
    exact canLay_pts zs
  have h2 : (PySem.W.Datum.toD zs).depth ≤ 64 := Nat.le_trans (PySem.W.Datum.depth_le zs) (by decide)
  rw [h1, decide_eq_true h2] <;> rfl
theorem all_app {α β : Type} {G : α → β → Prop} {ps qs : List α} {xs ys : List β} (h : ps.length = xs.length ∧ ∀ (i : Nat) (p : α) (x : β), ps[i]? = some p → xs[i]? = some x → G p x) (g : qs.length = ys.length ∧ ∀ (i : Nat) (p : α) (x : β), qs[i]? = some p → ys[i]? = some x → G p x) : (ps ++ qs).length = (xs ++ ys).length ∧ ∀ (i : Nat) (p : α) (x : β), (ps ++ qs)[i]? = some p → (xs ++ ys)[i]? = some x → G p x := by
  refine ⟨by rw [List.length_append, List.length_append, h.1, g.1], fun i p x hp hx => ?_⟩
  by_cases hi : i < ps.length
  · rw [List.getElem?_append_left hi] at hp
    rw [List.getElem?_append_left (by rw [← h.1]; exact hi)] at hx
    exact h.2 i p x hp hx
  · rw [List.getElem?_append_right (by omega)] at hp
    rw [List.getElem?_append_right (by rw [← h.1]; omega), ← h.1] at hx
    exact g.2 _ p x hp hx
theorem all_cons {α β : Type} {G : α → β → Prop} {ps : List α} {xs : List β} {p0 : α} {x0 : β} (g : G p0 x0) (h : ps.length = xs.length ∧ ∀ (i : Nat) (p : α) (x : β), ps[i]? = some p → xs[i]? = some x → G p x) : (p0 :: ps).length = (x0 :: xs).length ∧ ∀ (i : Nat) (p : α) (x : β), (p0 :: ps)[i]? = some p → (x0 :: xs)[i]? = some x → G p x := by
  refine ⟨by rw [List.length_cons, List.length_cons, h.1], fun i p x hp hx => ?_⟩
  cases i with
  | zero =>
    cases hp
    cases hx
    exact g
  | succ i => exact h.2 i p x hp hx
theorem all_nil {α β : Type} {G : α → β → Prop} : ([] : List α).length = ([] : List β).length ∧ ∀ (i : Nat) (p : α) (x : β), ([] : List α)[i]? = some p → ([] : List β)[i]? = some x → G p x := ⟨rfl, fun i p x h => by cases h⟩
def PtQ (K : PySem.W.Frag) (H : Hp) (p : Addr) (z : Pt) : Prop := SqT K H p (prV z) ∧ Near z
def PtsQ (K : PySem.W.Frag) (H : Hp) (ps : List Addr) (zs : List Pt) : Prop := ps.length = zs.length ∧ ∀ (i : Nat) (p : Addr) (z : Pt), ps[i]? = some p → zs[i]? = some z → PtQ K H p z
theorem PtsQ.kp {K : PySem.W.Frag} {H H' : Hp} {ps : List Addr} {zs : List Pt} (h : PtsQ K H ps zs) (e : Kp H H') : PtsQ K H' ps zs := ⟨h.1, fun i p z h1 h2 => ⟨e.sqt (h.2 i p z h1 h2).1, (h.2 i p z h1 h2).2⟩⟩
theorem dp_pts {K : PySem.W.Frag} {H : Hp} : ∀ {ps : List Addr} {zs : List Pt}, PtsQ K H ps zs → DpAll K H (ps.map V.ref) (zs.map PySem.W.Datum.toD)
  | [], [], _ => .nil
  | [], _ :: _, h => nomatch h.1
  | _ :: _, [], h => nomatch h.1
  | p :: ps, z :: zs, h => .cons (dp_pt (h.2 0 p z rfl rfl).1) (dp_pts ⟨Nat.succ.inj h.1, fun i p' z' h1 h2 => h.2 (i + 1) p' z' h1 h2⟩)
theorem kp_l {H : Hp} {p : Addr} {xs : List V} {o : HO} (h : H p = some (.lst xs)) : Kp H (L2.upd H p o) := Kp.upd h
theorem Kp.trans {H H1 H2 : Hp} (a : Kp H H1) (b : Kp H1 H2) : Kp H H2 := ⟨fun x xs h => b.t _ _ (a.t _ _ h), fun x od o h => b.f _ _ _ (a.f _ _ _ h)⟩
def zerosR (M : Md) : List Int := List.replicate (cnts (nOn (lsM M))).length 0
theorem good_zeros {ls : List (Nat × Bool)} : GoodR (cnts ls) (List.replicate (cnts ls).length 0) := by
  refine ⟨List.length_replicate, fun k c d hk hc hd => ?_⟩
  have ed : d = 0 := List.eq_of_mem_replicate (List.mem_of_getElem? hd)
  have hc2 : 1 < c := by
    have hm := List.mem_of_getElem? hc
    unfold cnts at hm
    obtain ⟨z, hz, rfl⟩ := List.mem_map.mp hm
    have := of_decide_eq_true (List.mem_filter.mp hz).2
    omega
  omega
structure NearM (M : Md) (r : List Int) : Prop where
  l : ∀ y ∈ burnL M r M.lamps.length, Near y.2.1
  p : ∀ x ∈ M.posts, NearB x.2
  n : ∀ x ∈ M.panes, Near x.2.1 ∧ Near x.2.2.1
def spSpots (K : PySem.W.Frag) : Sp := fun vs H Q _ => ∃ (b l g m : Addr) (ns : List Int) (n : Nat) (w x y : Int) (M : Md) (k : Nat), vs = [.ref b, .ref g, .ref m, .int (k : Int)] ∧ BagAt H b l ns n ∧ n < 400000 ∧ H g = some (.tup [.int w, .int x, .int y]) ∧ Grid w x y ∧ MdA K 20 H m M ∧ OkL M ∧ NearM M (zerosR M) ∧ k ≤ 100 ∧
  ∀ (p : Addr) (ps : List Addr) (zs : List Pt) (H' : Hp), H p = none → H' p = some (.lst (ps.map V.ref)) → ps.length = k → PtsQ K H' ps zs → BagAt H' b l ns (n + 5 * k) → But H H' b → Q (.ref p) H'
section
variable {P : Program} {w : World} {K : PySem.W.Frag} {mg : Str → Option Value} {base : Heap} {f C : Addr} {fd : FuncData} {n : Nat}
abbrev sSpots : Stmt := top 134
theorem scSpots : FnScope ["_law_bag_here", "_law_grid_here", "_law_m", "_law_many", "_law_found", "_law_some", "_law_number", "_law_k", "_law_spot_here", "_law_one_here"] ["_law_bag_here", "_law_grid_here", "_law_m", "_law_many"] (defScope sSpots) := ⟨rfl, rfl, rfl, by decide +kernel, rfl, by decide +kernel, by decide +kernel⟩
theorem ok_spots (F : FnP K "_law_spots" sSpots f fd) (O__law_pull : Own P w K mg base 1 "_law_pull" ["_law_bag_here", "_law_many"] spPull) (O__law_spot : Own P w K mg base 2 "_law_spot" ["_law_bag_here", "_law_grid_here"] spSpot) (O__law_one : Own P w K mg base 2 "_law_one" ["_law_bag_here", "_law_some"] (spOne K)) (O__law_counts : Own P w K mg base 1 "_law_counts" ["_law_m"] (spCountsM K 20)) (O__law_burning : Own P w K mg base 2 "_law_burning" ["_law_m", "_law_picks"] (spBurn K 20)) (O__law_corners : Own P w K mg base 1 "_law_corners" ["_law_block_here"] (spCorn K 20)) (g_range : mg "range" = none) (g_len : mg "len" = none) (g_sorted : mg "sorted" = none) : FnOk P w K mg base CX0 3 f fd ["_law_bag_here", "_law_grid_here", "_law_m", "_law_many"] (spSpots K) := by
  have nd := scSpots.nd
  refine F.ok scSpots (fun vs H Q E h => ?_) (fun cdv A outer s H vs Q E hr h => ⟨_, PSs.nox (pss_cons (ps_set (i := 4) nd rfl (.inl rfl) (pe_lst pa_nil))
  (pss_cons (ps_setLc (i := 5) (own := [("_law_one_here", 9)]) rfl nd rfl rfl (sw_true rfl rfl rfl (by decide +kernel)) (pi_list (Hs.pe_own O__law_burning hr (by first | decide | omega) (by rfl) (pa_cons (pv 2) (pa_cons (pe_op (r := Hs.rRepA K) Hs.op_repA (pe_tup (pa_cons pe_int pa_nil)) (pe_callB (r := Evl.rLenS K) call_len_seq (by rfl) g_len PySem.boot_len (pa_cons (Hs.pe_own O__law_counts hr (by first | decide | omega) (by rfl) (pa_cons (pv 2) pa_nil)) pa_nil))) pa_nil)))) (blkOk_by (N := ["_law_bag_here", "_law_grid_here", "_law_m", "_law_many", "_law_found", "_law_some", "_law_number", "_law_k", "_law_spot_here", "_law_one_here"]) (sc := defScope (Hs.top 134)) (by decide +kernel)) (fun _ _ _ _ _ => (pg_name (i := 9) nd rfl (Or.inl rfl))) (fun _ _ _ _ _ => pts_nil) (fun _ _ _ _ _ => (pe_ix (r := rIxT K) ix_tup (pv 9) pe_int (fun _ _ => rfl))))
  (pss_cons (ps_for PassesOwn.never rfl (pi_list (pe_callB (r := Hs.rSortDI) (Hs.cr_sortDI rfl) (by rfl) g_sorted (by decide +kernel) (pa_cons (pe_dget (Hs.un1 hr) (pv 2) pe_str (fun _ _ => rfl)) pa_nil))) (pg_name (i := 6) nd rfl (.inl rfl)) (pss_one (ps_expr (pe_bm PySem.F.plainAttrs_list PySem.F.slot_list_extend PySem.F.type_list_extend mt_extend (pv 5) (pa_cons (Hs.pe_own O__law_corners hr (by first | decide | omega) (by rfl) (pa_cons (pe_dget (Hs.un1 hr) (pe_dget (Hs.un1 hr) (pv 2) pe_str (fun _ _ => rfl)) (pv 6) (fun _ _ => rfl)) pa_nil)) pa_nil)))))
  (pss_cons (ps_for PassesOwn.never rfl (pi_list (pe_callB (r := Hs.rSortDI) (Hs.cr_sortDI rfl) (by rfl) g_sorted (by decide +kernel) (pa_cons (pe_dget (Hs.un1 hr) (pv 2) pe_str (fun _ _ => rfl)) pa_nil))) (pg_name (i := 6) nd rfl (.inl rfl)) (pss_one (ps_expr (pe_bm PySem.F.plainAttrs_list PySem.F.slot_list_extend PySem.F.type_list_extend Hs.mt_extT (pv 5) (pa_cons (pe_slice sl_tup (pe_dget (Hs.un1 hr) (pe_dget (Hs.un1 hr) (pv 2) pe_str (fun _ _ => rfl)) (pv 6) (fun _ _ => rfl)) po_none (po_some pe_int)) pa_nil)))))
  (pss_cons (ps_for PassesOwn.never rfl (pi_range1 (by rfl) g_range (pa_cons (pv 3) pa_nil)) (pg_name (i := 7) nd rfl (.inl rfl)) (pss_cons (ps_set (i := 8) nd rfl (.inl rfl) (Hs.pe_own O__law_spot hr (by first | decide | omega) (by rfl) (pa_cons (pv 0) (pa_cons (pv 1) pa_nil))))
  (Evl.pss_cut (ps_if (PW.pt (pw_and (pt_cmpR (op_neD hr.units) (pv 5) (pe_lst pa_nil) (nomark _)) (pw_and1 (pt_cmpR op_eq (Hs.pe_own O__law_pull hr (by first | decide | omega) (by rfl) (pa_cons (pv 0) (pa_cons pe_int pa_nil))) pe_int (nomark _))))) (pss_one (ps_set (i := 8) nd rfl (.inl rfl) (Hs.pe_own O__law_one hr (by first | decide | omega) (by rfl) (pa_cons (pv 0) (pa_cons (pv 5) pa_nil))))) pss_nil)
  (pss_one (ps_expr (pe_bm PySem.F.plainAttrs_list PySem.F.slot_list_append PySem.F.type_list_append mt_append (pv 4) (pa_cons (pv 8) pa_nil)))))))
  (pss_one (ps_ret (pv 4)))))))), ?_⟩)
  · obtain ⟨b, l, g, m, ns, n, w, x, y, M, k, rfl, _⟩ := h
    rfl
  · obtain ⟨b, l, g, m, ns, n, w, x, y, M, k, rfl, B, hn, hg, G, hM, hOk, hN, hk, kk⟩ := h
    obtain ⟨T, ⟨D, fm, fT⟩, hc, hkk, hl, hp, hpn⟩ := hM.ex
    have m2 : ("post" : Str) ∈ mW := by decide +kernel
    have m3 : ("pane" : Str) ∈ mW := by decide +kernel
    have hf := hM.few
    refine q_asgL (xs := []) (el_lst ea_nil (by simp)) fun fo H1 nfo e1 hfo => ?_
    dsimp only [List.set]
    have nfb : fo ≠ b := bag_ne B nfo
    have nfl : fo ≠ l := Ne.symm (ne_of_none B.ls nfo)
    have hM1 := hM.ext e1
    -- the burning lamps under the first choices
    have zeros : ∀ {σ : L2.St} {E' : XK}, σ[2]? = some (some (.ref m)) → ∀ H2, Ex H H2 → ∀ Q : VK, (∀ p H3, Ex H2 H3 → SqT K H3 p (iv (zerosR M)) → Q (.ref p) H3) → (tOp (rRepA K) (tTup (tCons (tC (.int 0)) tNil)) (tCB (rLenS K) (tCons (tCall (spCountsM K 20) [] E' (tCons (tVar 2) tNil)) tNil))) σ H2 Q := fun {σ E'} hs H2 e Q q => by
      refine ⟨sz_of (by simp), fun t0 ht0 => ?_⟩
      have x0 := Ex.new (o := .tup [V.int 0]) ht0
      refine ⟨_, hs, m, M, rfl, hM.ext (e.trans x0), fun c H3 nc e3 hc3 => ⟨c, _, rfl, .inl (sq_of hc3), t0, _, [.int 0], rfl, rfl, st_of (e3 _ _ upd_same), by simp, by omega, ?_, (show 1 ≤ 1000 by decide), fun h1 => ?_, fun h1 p hp => ?_⟩⟩
      · have q1 := cnts_len (nOn (lsM M))
        rw [nOn_len, lsM_len] at q1
        unfold iv
        rw [List.length_map]
        omega
      · refine q t0 H3 (x0.trans e3) (st_of ?_)
        have h2 : (cnts (nOn (lsM M))).length = 1 := by
          unfold iv at h1
          rw [List.length_map] at h1
          omega
        have e0 : iv (zerosR M) = [V.int 0] := by
          unfold zerosR
          rw [h2]
          rfl
        rw [e0]
        exact e3 _ _ upd_same
      · refine q p _ ((x0.trans e3).trans (Ex.new hp)) (st_of ?_)
        rw [upd_same]
        have e0 : (List.replicate ((iv (cnts (nOn (lsM M)))).length : Int).toNat [V.int 0]).flatten = iv (zerosR M) := by
          unfold zerosR iv
          rw [List.length_map, Int.toNat_natCast]
          generalize (cnts (nOn (lsM M))).length = u
          induction u with
          | zero => rfl
          | succ u ih =>
            rw [List.replicate_succ, List.replicate_succ, List.flatten_cons, ih]
            rfl
        rw [e0]
    refine ⟨_, rfl, ?_⟩
    refine zeros rfl H1 e1 _ fun pk H2 e2 hpk => ?_
    have e02 := e1.trans e2
    refine ⟨m, pk, M, zerosR M, rfl, hM.ext e02, hpk, good_zeros, hOk, (fun y hy => ⟨bd20 (hN.l y hy).1, bd20 (hN.l y hy).2⟩), fun bu qs H3 nbu e3 hbu hB => ⟨bu, rfl, ⟨_, sq_of hbu⟩, fun so hso => ?_⟩⟩
    have e03 := e02.trans e3
    have hql : qs.length ≤ 30 := by
      rw [hB.1]
      have := burnL_len (M := M) (r := zerosR M) (i := M.lamps.length)
      omega
    have nso : H so = none := fresh_back e03 hso
    have nsb : so ≠ b := bag_ne B nso
    have nsl : so ≠ l := Ne.symm (ne_of_none B.ls nso)
    have hfo3 := (e2.trans e3) _ _ hfo
    have nfs : fo ≠ so := ne_of_none hfo3 hso
    refine lc_it (walk_list (K := K) (a := bu) (xs := qs.map V.ref)) (fun i H' => Ex H3 H' ∧ ∃ (us : List Addr) (zs : List Pt), H' so = some (.lst (us.map V.ref)) ∧ us.length = i ∧ PtsQ K H' us zs) ⟨Ex.new hso, [], [], upd_same, rfl, all_nil⟩ (fun i H' _ q => sq_of (q.1 _ _ hbu)) (fun i x H' H'' hi q yy => ?_) (fun H' q => ?_)
    · obtain ⟨rfl, hx⟩ := yy
      obtain ⟨e, us, zs, hD', hul, hu⟩ := q
      rw [List.getElem?_map] at hx
      obtain ⟨q, hq, rfl⟩ := Option.map_eq_some_iff.mp hx
      have hqi := (List.getElem?_eq_some_iff.mp hq).1
      obtain ⟨z, hli⟩ : ∃ z, (burnL M (zerosR M) M.lamps.length)[i]? = some z := ⟨_, List.getElem?_eq_getElem (by rw [← hB.1]; exact hqi)⟩
      obtain ⟨a, t, g1, g2, g3⟩ := (hB.ext e).2 i q z hq hli
      refine ⟨rfl, ?_⟩
      simp only [tYes, if_true]
      refine ⟨_, rfl, q, _, 1, _, rfl, rfl, g1, rfl, ?_⟩
      refine ⟨_, hD', sz_lt (by rw [List.length_map]; omega), Ex.mut e hso, us ++ [a], zs ++ [z.2.1], by rw [upd_same, List.map_append] <;> rfl, by rw [List.length_append, hul] <;> rfl, ?_⟩
      exact PtsQ.kp (all_snoc hu ⟨g2.1, hN.l z (List.mem_of_getElem? hli)⟩) (kp_l hD')
    · obtain ⟨e, us, zs, hso', hul, hu⟩ := q
      have ul30 : us.length ≤ 30 := by
        rw [hul, List.length_map]
        exact hql
      have e04 := e03.trans e
      have hfo4 := e _ _ hfo3
      dsimp only [gName, List.set]
      -- the corners of posts
      have hp4 := hp.mono fun _ _ => (Kp.of e04).blkM
      refine q_forNL (K := K) (el_sort (xs := M.posts) (ev_fz (key := .inr "post") (ev_var rfl) ev_c (fm.ext e04) (valV_row m2)) ((fT _ m2).ext e04) hp.keys hM.up.1 (by omega)) (fun p i σ' H' => H so ≠ H' so ∧ H' p = some (.lst ((M.posts.map (·.1)).map V.int)) ∧ p ≠ so ∧ Ex H H' ∧ H' fo = some (.lst []) ∧ ∃ (us : List Addr) (zs : List Pt) (v6 : Option V), σ' = [some (.ref b), some (.ref g), some (.ref m), some (.int (k : Int)), some (.ref fo), some (.ref so), v6, none, none, none] ∧ H' so = some (.lst (us.map V.ref)) ∧ us.length ≤ 30 + 4 * i ∧ PtsQ K H' us zs) ?_ ?_ ?_ ?_
      · intro p H5 np e5 hp5
        exact ⟨by rw [nso, e5 _ _ hso']; exact fun z => (by cases z), hp5, Ne.symm (ne_of_none hso' np), e04.trans e5, e5 _ _ hfo4, us, zs, none, rfl, e5 _ _ hso', by omega, hu.kp (Kp.of e5)⟩
      · rintro p i σ' H' _ ⟨_, hp2, _⟩
        exact sq_of hp2
      · rintro p i x σ' H5 hx ⟨_, hp5, nps, e05, hfo5, us, zs, v6, rfl, hso5, hul5, hu5⟩
        obtain ⟨yb, hy, rfl⟩ := keys_at hx
        have hyi := (List.getElem?_eq_some_iff.mp hy).1
        obtain ⟨v, hv, pb, rfl, hBl⟩ := hp.get hM.up.1 hy
        dsimp only [gName, List.set]
        refine ⟨_, rfl, .inl ⟨rfl, _, sq_of hso5⟩, ?_⟩
        refine (ev_fz (key := .inl yb.1) (ev_fz (key := .inr "post") (ev_var rfl) ev_c (fm.ext e05) (valV_row m2)) (ev_var rfl) ((fT _ m2).ext e05) hv) H5 (Ex.refl _) _ fun H6 e6 => ?_
        refine ⟨pb, yb.2, rfl, hBl.ext (e05.trans e6), fun r t1 t2 t3 t4 H7 nr e7 hr' h1 h2 h3 h4 => ?_⟩
        have e57 := e6.trans e7
        have hso7 := e57 _ _ hso5
        have hnb := hN.p yb (List.mem_of_getElem? hy)
        refine ⟨so, r, us.map V.ref, [t1, t2, t3, t4].map V.ref, rfl, rfl, hso7, hr', by rw [List.length_map]; show us.length + 4 ≤ sizeLine; exact sz_of (by omega), ?_⟩
        refine ⟨by rw [nso, upd_same]; exact fun z => (by cases z), by rw [upd_ne nps]; exact e57 _ _ hp5, nps, Ex.mut (e05.trans e57) nso, by rw [upd_ne nfs]; exact e57 _ _ hfo5, us ++ [t1, t2, t3, t4], zs ++ [(yb.2.left, yb.2.low), (yb.2.right, yb.2.low), (yb.2.right, yb.2.high), (yb.2.left, yb.2.high)], _, rfl, by rw [upd_same, List.map_append], by rw [List.length_append]; show us.length + 4 ≤ _; omega, ?_⟩
        refine PtsQ.kp (all_app (hu5.kp (Kp.of e57)) (all_cons ⟨st_of h1, hnb.1.1, hnb.1.2⟩ (all_cons ⟨st_of h2, hnb.2.1, hnb.1.2⟩ (all_cons ⟨st_of h3, hnb.2.1, hnb.2.2⟩ (all_cons ⟨st_of h4, hnb.1.1, hnb.2.2⟩ all_nil))))) (kp_l hso7)
      · rintro p σ' H5 ⟨_, hp5, nps, e05, hfo5, us, zs, v6, rfl, hso5, hul5, hu5⟩
        have hul6 : us.length ≤ 150 := by
          rw [List.length_map, List.length_map] at hul5
          omega
        -- the ends of panes
        refine q_forNL (K := K) (el_sort (xs := M.panes) (ev_fz (key := .inr "pane") (ev_var rfl) ev_c (fm.ext e05) (valV_row m3)) ((fT _ m3).ext e05) hpn.keys hM.un.1 (by omega)) (fun p i σ' H' => H' p = some (.lst ((M.panes.map (·.1)).map V.int)) ∧ p ≠ so ∧ Ex H H' ∧ H' fo = some (.lst []) ∧ ∃ (us : List Addr) (zs : List Pt) (v6 : Option V), σ' = [some (.ref b), some (.ref g), some (.ref m), some (.int (k : Int)), some (.ref fo), some (.ref so), v6, none, none, none] ∧ H' so = some (.lst (us.map V.ref)) ∧ us.length ≤ 150 + 2 * i ∧ PtsQ K H' us zs) ?_ ?_ ?_ ?_
        · intro p H6 np e6 hp6
          exact ⟨hp6, Ne.symm (ne_of_none hso5 np), e05.trans e6, e6 _ _ hfo5, us, zs, v6, rfl, e6 _ _ hso5, by omega, hu5.kp (Kp.of e6)⟩
        · rintro p i σ' H' _ ⟨hp2, _⟩
          exact sq_of hp2
        · rintro p i x σ' H6 hx ⟨hp6, nps6, e06, hfo6, us, zs, v6, rfl, hso6, hul6, hu6⟩
          obtain ⟨yb, hy, rfl⟩ := keys_at hx
          have hyi := (List.getElem?_eq_some_iff.mp hy).1
          obtain ⟨v, hv, pb, a1, a2, rfl, hq1, hq2, hq3⟩ := hpn.get hM.un.1 hy
          dsimp only [gName, List.set]
          refine ⟨_, rfl, .inl ⟨rfl, _, sq_of hso6⟩, ?_⟩
          refine (eu_sl (K := K) (xs := [.ref a1, .ref a2, .str yb.2.2.2]) (lo := none) (hi := some 2) (ev_fz (key := .inl yb.1) (ev_fz (key := .inr "pane") (ev_var rfl) ev_c (fm.ext e06) (valV_row m3)) (ev_var rfl) ((fT _ m3).ext e06) hv) eo_none (eo_some ev_c) (ex_t e06 hq1) (fun z => nomatch (show (2 : Nat) = 3 from z.2))) H6 (Ex.refl _) _ fun t7 H7 n7 e7 h7 => ?_
          have hso7 := e7 _ _ hso6
          have hnb := hN.n yb (List.mem_of_getElem? hy)
          refine ⟨so, t7, us.map V.ref, [a1, a2].map V.ref, rfl, rfl, hso7, st_of h7, by rw [List.length_map]; show us.length + 2 ≤ sizeLine; exact sz_of (by omega), ?_⟩
          refine ⟨by rw [upd_ne nps6]; exact e7 _ _ hp6, nps6, Ex.mut (e06.trans e7) nso, by rw [upd_ne nfs]; exact e7 _ _ hfo6, us ++ [a1, a2], zs ++ [yb.2.1, yb.2.2.1], _, rfl, by rw [upd_same, List.map_append], by rw [List.length_append]; show us.length + 2 ≤ _; omega, ?_⟩
          refine PtsQ.kp (all_app (hu6.kp (Kp.of e7)) (all_cons ⟨(hq2.ext (e06.trans e7)).1, hnb.1⟩ (all_cons ⟨(hq3.ext (e06.trans e7)).1, hnb.2⟩ all_nil))) (kp_l hso7)
        · rintro p σ' H6 ⟨hp6, nps6, e06, hfo6, us, zs, v6, rfl, hso6, hul6, hu6⟩
          have hul7 : us.length ≤ 250 := by
            rw [List.length_map, List.length_map] at hul6
            omega
          -- the places themselves
          refine q_forR1 (n := (k : Int)) (ea_cons (ev_var rfl) ea_nil) ⟨by omega, by omega⟩ (fun i σ' H' => ∃ (ps : List Addr) (ys : List Pt) (v7 v8 : Option V), σ' = [some (.ref b), some (.ref g), some (.ref m), some (.int (k : Int)), some (.ref fo), some (.ref so), v6, v7, v8, none] ∧ BagAt H' b l ns (n + 5 * i) ∧ But H H' b ∧ Kp H6 H' ∧ H' so = some (.lst (us.map V.ref)) ∧ H' fo = some (.lst (ps.map V.ref)) ∧ ps.length = i ∧ PtsQ K H' ps ys) ?_ ?_ ?_
          · intro H7 e7
            exact ⟨[], [], none, none, rfl, B.ext (e06.trans e7) (by omega), But.of (e06.trans e7), Kp.of e7, e7 _ _ hso6, e7 _ _ hfo6, rfl, all_nil⟩
          · rintro i σ' H7 hi ⟨ps, ys, v7, v8, rfl, B7, b7, kp7, hso7, hfo7, hpl, hpy⟩
            have hg7 := kp7.tup (e06 _ _ hg)
            refine ⟨_, rfl, _, rfl, b, l, g, ns, _, w, x, y, rfl, B7, by omega, hg7, G, fun sp z H8 hz nsp hsp B8 b8 => ?_⟩
            dsimp only [gName, List.set]
            have kp8 := kp7.trans (bag_kp B7 b8)
            have hso8 := b8 _ _ hso7 nsb
            have hfo8 := b8 _ _ hfo7 nfb
            have hpy8 := hpy.kp (bag_kp B7 b8)
            refine q_cut (M := fun σ' H' => ∃ (sp : Addr) (z : Pt), σ' = [some (.ref b), some (.ref g), some (.ref m), some (.int (k : Int)), some (.ref fo), some (.ref so), v6, some (.int (i : Int)), some (.ref sp), none] ∧ BagAt H' b l ns (n + 5 * i + 4) ∧ But H8 H' b ∧ PtQ K H' sp z) ?_ ?_
            · refine ⟨_, rfl, sz_of (by simp), fun le hle => ?_⟩
              have xl := Ex.new (o := .lst []) hle
              have hu8 := hu6.kp (kp8.trans (Kp.of xl))
              refine ⟨PySem.W.Datum.toD zs, PySem.W.Datum.toD ([] : List Pt), .lst (sq_of (xl _ _ hso8)) (dp_pts hu8), .lst (sq_of upd_same) .nil, shaped_pts _, shaped_pts _, _, rfl, ?_⟩
              rw [PySem.W.Datum.eqv]
              have stay : ∃ (sp' : Addr) (z' : Pt), [some (V.ref b), some (.ref g), some (.ref m), some (.int (k : Int)), some (.ref fo), some (.ref so), v6, some (.int (i : Int)), some (.ref sp), none] = [some (.ref b), some (.ref g), some (.ref m), some (.int (k : Int)), some (.ref fo), some (.ref so), v6, some (.int (i : Int)), some (.ref sp'), none] ∧ BagAt (upd H8 le (.lst [])) b l ns (n + 5 * i + 4) ∧ But H8 (upd H8 le (.lst [])) b ∧ PtQ K (upd H8 le (.lst [])) sp' z' := ⟨sp, z, rfl, B8.ext xl (by omega), But.of xl, st_of (xl _ _ hsp), hz⟩
              by_cases hzs : zs = []
              · refine ite_F (by rw [hzs]; rfl) ?_
                refine ite_F rfl ?_
                obtain ⟨sp', z', q1, q2, q3, q4⟩ := stay
                exact ⟨sp', z', q1, q2, q3, q4⟩
              · refine ite_T (by rw [decide_eq_false hzs] <;> rfl) ?_
                refine ⟨_, rfl, b, l, ns, _, 3, rfl, B8.ext xl (Nat.le_refl _), by omega, by decide, by decide, fun u H9 u0 u1 B9 b9 => ⟨rfl, _, rfl, ?_⟩⟩
                have B8x := B8.ext xl (Nat.le_refl _)
                by_cases hu0 : u = 0
                · refine ite_T (decide_eq_true (by rw [hu0])) ?_
                  have hso9 := b9 _ _ (xl _ _ hso8) nsb
                  have hul0 : 0 < us.length := by
                    rw [hu6.1]
                    exact List.length_pos_iff.mpr hzs
                  refine ⟨_, rfl, _, rfl, b, l, so, ns, _, us.map V.ref, rfl, B9, by omega, hso9, nsb, by rw [List.length_map]; exact hul0, by rw [List.length_map]; omega, fun v H10 hv B10 b10 => ?_⟩
                  obtain ⟨sp', hsp', rfl⟩ := List.mem_map.mp hv
                  obtain ⟨j, hj, ej⟩ := List.mem_iff_getElem.mp hsp'
                  have hj2 : j < zs.length := by
                    rw [← hu6.1]
                    exact hj
                  have hu10 := hu8.kp ((bag_kp B8x b9).trans (bag_kp B9 b10))
                  exact ⟨sp', zs[j], rfl, B10.ext (Ex.refl _) (by omega), ((But.of xl).trans b9).trans b10, hu10.2 j sp' zs[j] (by rw [List.getElem?_eq_getElem hj, ej]) (List.getElem?_eq_getElem hj2)⟩
                · refine ite_F (decide_eq_false (fun z => hu0 (by injection z))) ?_
                  exact ⟨sp, z, rfl, B9.ext (Ex.refl _) (by omega), (But.of xl).trans b9, st_of ((bag_kp B8x b9).tup (xl _ _ hsp)), hz⟩
            · rintro σ' H9 ⟨sp', z', rfl, B9, b9, hpq⟩
              have kp9 := bag_kp B8 b9
              have hfo9 := b9 _ _ hfo8 nfb
              refine ⟨_, rfl, .inl ⟨rfl, _, sq_of hfo9⟩, _, rfl, fo, _, _, rfl, rfl, hfo9, sz_lt (by rw [List.length_map]; omega), ?_⟩
              have ku := kp_l (o := .lst (ps.map V.ref ++ [.ref sp'])) hfo9
              refine ⟨ps ++ [sp'], ys ++ [z'], _, _, rfl, bag_upd (B9.ext (Ex.refl _) (by omega)) (Ne.symm nfb) (Ne.symm nfl), ((b7.trans b8).trans b9).upd2 nfo, (kp8.trans kp9).trans ku, by rw [upd_ne (Ne.symm nfs)]; exact b9 _ _ hso8 nsb, by rw [upd_same, List.map_append] <;> rfl, by rw [List.length_append, hpl] <;> rfl, ?_⟩
              exact PtsQ.kp (all_snoc (hpy8.kp kp9) hpq) ku
          · rintro σ' H7 ⟨ps, ys, v7, v8, rfl, B7, b7, kp7, hso7, hfo7, hpl, hpy⟩
            have ek : (k : Int).toNat = k := by omega
            rw [ek] at B7 hpl
            exact s_ret (ev_var rfl) fun H8 e8 => kk fo ps ys H8 nfo (e8 _ _ hfo7) hpl (hpy.kp (Kp.of e8)) (B7.ext e8 (Nat.le_refl _)) (b7.ex e8)
end
end Hs
namespace Hs
open PySem PySem.Spec PyProof.Rows L2 Evl
theorem numF_at {α : Type} : ∀ {xs : List α} {k : Int} {j : Nat} {x : α}, xs[j]? = some x → (numF k xs)[j]? = some (k + j, x)
  | [], _, _, _, h => by cases h
  | y :: r, k, 0, x, h => by
    cases h
    show some (k, y) = some (k + ((0 : Nat) : Int), y)
    rw [Int.natCast_zero, Int.add_zero]
  | y :: r, k, j + 1, x, h => by
    have h2 : r[j]? = some x := h
    show (numF (k + 1) r)[j]? = _
    rw [numF_at h2]
    congr 2
    omega
theorem lsM_of (Ds : List Deed) : lsM (mdOf Ds) = lsD Ds := by
  unfold lsM
  show (numF 1 ((lampsD Ds).map oneL)).map (fun x => (x.2.1, x.2.2.2.2)) = _
  have e : (fun x : Int × LM => (x.2.1, x.2.2.2.2)) = (fun l : LM => (l.1, l.2.2.2)) ∘ fun x => x.2 := rfl
  rw [e, ← List.map_map, numF_snd, List.map_map]
  rfl
theorem lsD_one {Ds : List Deed} : ∀ z ∈ lsD Ds, z.1.length = 1 := fun z hz => by
  unfold lsD at hz
  obtain ⟨c, _, rfl⟩ := List.mem_map.mp hz
  rfl
theorem cnts_of (Ds : List Deed) : cnts (nOn (lsM (mdOf Ds))) = [] := by
  rw [lsM_of]
  exact nOn_one lsD_one
theorem zerosR_of (Ds : List Deed) : zerosR (mdOf Ds) = [] := by
  unfold zerosR
  rw [cnts_of]
  rfl
theorem lamp_of {Ds : List Deed} {j : Nat} {c : Chc} (h : (lampsD Ds)[j]? = some c) : (mdOf Ds).lamps[j]? = some ((1 : Int) + (j : Int), oneL c) := by
  show (numF 1 ((lampsD Ds).map oneL))[j]? = _
  exact numF_at (by rw [List.getElem?_map, h] <;> rfl)
theorem lamps_len {Ds : List Deed} : (mdOf Ds).lamps.length = (lampsD Ds).length := by
  show (numF 1 ((lampsD Ds).map oneL)).length = _
  rw [numF_len, List.length_map]
theorem chc_of {Ds : List Deed} {j : Nat} {c : Chc} (h : (lampsD Ds)[j]? = some c) : chcAt (mdOf Ds) [] j = c := by
  have hg : (mdOf Ds).lamps.getD j noL = ((1 : Int) + (j : Int), oneL c) := by rw [List.getD_eq_getElem?_getD, lamp_of h] <;> rfl
  have hp : pval (nOn (lsM (mdOf Ds))) [] j = 0 := by
    unfold pval
    rw [List.getD_eq_getElem?_getD, nOn_at (lsM_at (lamp_of h))]
    rfl
  unfold chcAt
  rw [hg, hp]
  rfl
theorem burn_of (Ds : List Deed) : ∀ i, i ≤ (lampsD Ds).length → (burnL (mdOf Ds) [] i).map (fun y => y.2) = ((lampsD Ds).take i).map fun c => ((c.1, c.2.1), c.2.2)
  | 0, _ => rfl
  | i + 1, hi => by
    obtain ⟨c, hc⟩ : ∃ c, (lampsD Ds)[i]? = some c := ⟨_, List.getElem?_eq_getElem (by omega)⟩
    have hg : (mdOf Ds).lamps.getD i noL = ((1 : Int) + (i : Int), oneL c) := by rw [List.getD_eq_getElem?_getD, lamp_of hc] <;> rfl
    have hon : isOn (mdOf Ds) i = true := by
      unfold isOn
      rw [hg]
      rfl
    rw [burnL_next, if_pos hon, List.map_append, burn_of Ds i (by omega), List.take_add_one, hc, List.map_append]
    congr 1
    show [(burnAt (mdOf Ds) [] i).2] = [((c.1, c.2.1), c.2.2)]
    unfold burnAt
    rw [hg, chc_of hc]
    show [((c.1 + 0, c.2.1 + 0), c.2.2)] = _
    rw [Int.add_zero, Int.add_zero]
theorem lits_of (Ds : List Deed) : litsM (mdOf Ds) [] = (lampsD Ds).map fun c => ((c.1, c.2.1), c.2.2) := by
  unfold litsM
  rw [lamps_len, burn_of Ds _ (Nat.le_refl _), List.take_length]
theorem blks_of (Ds : List Deed) : blksM (mdOf Ds) = postsD Ds := numF_snd _ _
theorem pans_of (Ds : List Deed) : pansM (mdOf Ds) = panesD Ds := numF_snd _ _
theorem near_post {Ds : List Deed} (h : ∀ D ∈ Ds, D.near) : ∀ B ∈ postsD Ds, Vb B ∧ NearB B := fun B hB => by
  obtain ⟨D, hD, e⟩ := List.mem_filterMap.mp hB
  have hn := h D hD
  cases D with
  | post C =>
    cases e
    exact hn
  | lamp c => cases e
  | pane a b z => cases e
theorem near_lamp {Ds : List Deed} (h : ∀ D ∈ Ds, D.near) : ∀ c ∈ lampsD Ds, Near (c.1, c.2.1) ∧ triB c.2.2 := fun B hB => by
  obtain ⟨D, hD, e⟩ := List.mem_filterMap.mp hB
  have hn := h D hD
  cases D with
  | post C => cases e
  | lamp c =>
    cases e
    exact hn
  | pane a b z => cases e
theorem near_pane {Ds : List Deed} (h : ∀ D ∈ Ds, D.near) : ∀ N ∈ panesD Ds, (Near N.1 ∧ Near N.2.1) ∧ N.2.2 ∈ S8 := fun B hB => by
  obtain ⟨D, hD, e⟩ := List.mem_filterMap.mp hB
  have hn := h D hD
  cases D with
  | post C => cases e
  | lamp c => cases e
  | pane a b z =>
    cases e
    exact ⟨hn.1, hn.2.2⟩
theorem okL_of (Ds : List Deed) : OkL (mdOf Ds) := fun x hx => by
  obtain ⟨j, hj, rfl⟩ := List.mem_iff_getElem.mp hx
  have hj2 : j < (lampsD Ds).length := by
    rw [← lamps_len]
    exact hj
  have e := lamp_of (List.getElem?_eq_getElem hj2)
  rw [List.getElem?_eq_getElem hj] at e
  rw [Option.some.inj e]
  exact ⟨Nat.le_refl 1, show 1 ≤ 1000 by decide⟩
theorem burn_near {Ds : List Deed} (h : ∀ D ∈ Ds, D.near) : ∀ y ∈ burnL (mdOf Ds) [] (mdOf Ds).lamps.length, Near y.2.1 := fun y hy => by
  have hm : y.2 ∈ litsM (mdOf Ds) [] := List.mem_map.mpr ⟨y, hy, rfl⟩
  rw [lits_of] at hm
  obtain ⟨c, hc, e⟩ := List.mem_map.mp hm
  rw [← e]
  exact (near_lamp h c hc).1
theorem nearM_of {Ds : List Deed} (h : ∀ D ∈ Ds, D.near) : NearM (mdOf Ds) (zerosR (mdOf Ds)) := by
  rw [zerosR_of]
  refine ⟨burn_near h, fun x hx => ?_, fun x hx => ?_⟩
  · have hm : x.2 ∈ blksM (mdOf Ds) := List.mem_map.mpr ⟨x, hx, rfl⟩
    rw [blks_of] at hm
    exact (near_post h _ hm).2
  · have hm : x.2 ∈ pansM (mdOf Ds) := List.mem_map.mpr ⟨x, hx, rfl⟩
    rw [pans_of] at hm
    exact (near_pane h _ hm).1
end Hs
namespace Hs
open PySem PySem.Spec PyProof.Rows L2 Evl
/-! ### states and houses in general: things by their numbers, looks with their floors -/
abbrev LT := List Chc × Bool
structure Flr where
  lamps : List (Int × LT)
  posts : List (Int × Blk)
  panes : List (Int × Pan)
structure Stt where
  fl : Flr
  looks : List (Int × (Pt × Tri × Flr))
  cl : Int
  cp : Int
  cn : Int
  ck : Int
def LampV (H : Hp) (v : V) (l : LT) : Prop := ∃ th, v = .ref th ∧ LampG H th l.1 l.2
structure FlrA (K : PySem.W.Frag) (n : Nat) (H : Hp) (fl : Addr) (F : Flr) : Prop where
  ex : ∃ (b q2 q3 : Addr) (t1 t2 t3 : List (Key × V)), Fz H fl (bareV b q2 q3) ∧ Fz H b t1 ∧ Fz H q2 t2 ∧ Fz H q3 t3 ∧ TabA (LampV H) t1 F.lamps ∧ TabA (fun v B => FigV K n H v (.post B)) t2 F.posts ∧ TabA (fun v N => FigV K n H v (figN N)) t3 F.panes
theorem Kp.lampV {H H' : Hp} {v : V} {l : LT} (e : Kp H H') (h : LampV H v l) : LampV H' v l := let ⟨th, h1, h2⟩ := h; ⟨th, h1, h2.keep fun _ _ z => e.tup z⟩
theorem Kp.flr {K : PySem.W.Frag} {n : Nat} {H H' : Hp} {fl : Addr} {F : Flr} (e : Kp H H') (h : FlrA K n H fl F) : FlrA K n H' fl F := by
  obtain ⟨b, q2, q3, t1, t2, t3, h1, h2, h3, h4, h5, h6, h7⟩ := h.ex
  exact ⟨b, q2, q3, t1, t2, t3, e.fz h1, e.fz h2, e.fz h3, e.fz h4, h5.mono fun _ _ => e.lampV, h6.mono fun _ _ => e.figv, h7.mono fun _ _ => e.figv⟩
theorem FlrA.ext {K : PySem.W.Frag} {n : Nat} {H H' : Hp} {fl : Addr} {F : Flr} (h : FlrA K n H fl F) (e : Ex H H') : FlrA K n H' fl F := (Kp.of e).flr h
def LookV (K : PySem.W.Frag) (n : Nat) (H : Hp) (v : V) (x : Pt × Tri × Flr) : Prop := ∃ lk pl lt fl, v = .ref lk ∧ SqT K H lk [.ref pl, .ref lt, .ref fl] ∧ SqT K H pl (prV x.1) ∧ SqT K H lt (tri x.2.1) ∧ FlrA K n H fl x.2.2
theorem Kp.lookV {K : PySem.W.Frag} {n : Nat} {H H' : Hp} {v : V} {x : Pt × Tri × Flr} (e : Kp H H') (h : LookV K n H v x) : LookV K n H' v x := let ⟨lk, pl, lt, fl, h1, h2, h3, h4, h5⟩ := h; ⟨lk, pl, lt, fl, h1, e.sqt h2, e.sqt h3, e.sqt h4, e.flr h5⟩
structure SttA (K : PySem.W.Frag) (n : Nat) (H : Hp) (s : Addr) (S : Stt) : Prop where
  ex : ∃ (fl lk cm : Addr) (tl : List (Key × V)), SqT K H s [.ref fl, .ref lk, .ref cm] ∧ FlrA K n H fl S.fl ∧ Fz H lk tl ∧ TabA (LookV K n H) tl S.looks ∧ Fz H cm (comC S.cl S.cp S.cn S.ck)
  ul : Up S.fl.lamps S.cl
  up : Up S.fl.posts S.cp
  un : Up S.fl.panes S.cn
  uk : Up S.looks S.ck
  few : S.fl.lamps.length ≤ 12 ∧ S.fl.posts.length ≤ 12 ∧ S.fl.panes.length ≤ 12 ∧ S.looks.length ≤ 24
theorem Kp.stt {K : PySem.W.Frag} {n : Nat} {H H' : Hp} {s : Addr} {S : Stt} (e : Kp H H') (h : SttA K n H s S) : SttA K n H' s S := by
  obtain ⟨fl, lk, cm, tl, h1, h2, h3, h4, h5⟩ := h.ex
  exact ⟨⟨fl, lk, cm, tl, e.sqt h1, e.flr h2, e.fz h3, h4.mono fun _ _ => e.lookV, e.fz h5⟩, h.ul, h.up, h.un, h.uk, h.few⟩
theorem SttA.ext {K : PySem.W.Frag} {n : Nat} {H H' : Hp} {s : Addr} {S : Stt} (h : SttA K n H s S) (e : Ex H H') : SttA K n H' s S := (Kp.of e).stt h
/-- the house at h: its past at p, what is ahead at q, each of at most m rows; its state S -/
structure HsX (K : PySem.W.Frag) (C : Addr) (n : Nat) (H : Hp) (h dx p q : Addr) (m : Nat) (S : Stt) : Prop where
  ex : ∃ (s : Addr) (ps qs : List V), H h = some (.ins C dx (fldsH s p q)) ∧ H p = some (.lst ps) ∧ ps.length ≤ m ∧ H q = some (.lst qs) ∧ qs.length ≤ m ∧ p ≠ q ∧ SttA K n H s S
theorem HsX.keep {K : PySem.W.Frag} {C : Addr} {n : Nat} {H H' : Hp} {h dx p q : Addr} {m m' : Nat} {S : Stt} (a : HsX K C n H h dx p q m S) (e : Kp H H') (eh : ∀ o, H h = some o → H' h = some o) (ep : ∀ o, H p = some o → H' p = some o) (eq : ∀ o, H q = some o → H' q = some o) (hm : m ≤ m') : HsX K C n H' h dx p q m' S := by
  obtain ⟨s, ps, qs, h1, h2, h3, h4, h5, h6, h7⟩ := a.ex
  exact ⟨s, ps, qs, eh _ h1, ep _ h2, by omega, eq _ h4, by omega, h6, e.stt h7⟩
theorem HsX.ext {K : PySem.W.Frag} {C : Addr} {n : Nat} {H H' : Hp} {h dx p q : Addr} {m : Nat} {S : Stt} (a : HsX K C n H h dx p q m S) (e : Ex H H') : HsX K C n H' h dx p q m S := a.keep (Kp.of e) (fun _ z => e _ _ z) (fun _ z => e _ _ z) (fun _ z => e _ _ z) (Nat.le_refl _)
theorem HsX.ins {K : PySem.W.Frag} {C : Addr} {n : Nat} {H : Hp} {h dx p q : Addr} {m : Nat} {S : Stt} (a : HsX K C n H h dx p q m S) : ∃ fs, H h = some (.ins C dx fs) ∧ ∀ x : Str, x ∉ (["state", "past", "ahead", "trying"] : List Str) → fs.lookup x = none := by
  obtain ⟨s, ps, qs, h1, _⟩ := a.ex
  refine ⟨_, h1, fun x hx => ?_⟩
  simp only [List.mem_cons, List.not_mem_nil, or_false, not_or] at hx
  unfold fldsH
  rw [List.lookup_cons, beq_eq_false_iff_ne.mpr hx.1, List.lookup_cons, beq_eq_false_iff_ne.mpr hx.2.1, List.lookup_cons, beq_eq_false_iff_ne.mpr hx.2.2.1, List.lookup_cons, beq_eq_false_iff_ne.mpr hx.2.2.2] <;> rfl
theorem HsX.lsts {K : PySem.W.Frag} {C : Addr} {n : Nat} {H : Hp} {h dx p q : Addr} {m : Nat} {S : Stt} (a : HsX K C n H h dx p q m S) : (∃ xs, H p = some (.lst xs)) ∧ ∃ xs, H q = some (.lst xs) := by
  obtain ⟨s, ps, qs, _, h2, _, h4, _⟩ := a.ex
  exact ⟨⟨_, h2⟩, _, h4⟩
theorem HsX.kp {K : PySem.W.Frag} {C : Addr} {n : Nat} {H H' : Hp} {h dx p q : Addr} {m : Nat} {S : Stt} (a : HsX K C n H h dx p q m S) (k : Kept H H' h p q) : Kp H H' := by
  obtain ⟨fs, h1, _⟩ := a.ins
  obtain ⟨⟨_, h2⟩, _, h3⟩ := a.lsts
  exact k.kp h1 h2 h3
def Stt.new : Stt := ⟨⟨[], [], []⟩, [], 1, 1, 1, 1⟩
theorem up_nil {α : Type} {c : Int} : Up ([] : List (Int × α)) c := ⟨List.Pairwise.nil, fun x hx => by cases hx⟩
theorem tab_nil {α : Type} {G : V → α → Prop} : TabA G [] [] := ⟨rfl, fun i k v x h _ => by cases h⟩
theorem HsX.made {K : PySem.W.Frag} {C : Addr} {n : Nat} {H : Hp} {h dx s p q : Addr} (hh : H h = some (.ins C dx [("state", .ref s), ("past", .ref p), ("ahead", .ref q), ("trying", .bl false)])) (hp : H p = some (.lst [])) (hq : H q = some (.lst [])) (hn : p ≠ q) (f : FirstA K H s) : HsX K C n H h dx p q 0 Stt.new := by
  obtain ⟨fl, lk, cm, q1, q2, q3, h1, h2, h3, h4, h5, h6, h7⟩ := f.ex
  exact ⟨s, [], [], hh, hp, Nat.le_refl _, hq, Nat.le_refl _, hn, ⟨fl, lk, cm, [], st_of h1, ⟨q1, q2, q3, [], [], [], h2, h5, h6, h7, tab_nil, tab_nil, tab_nil⟩, h3, tab_nil, h4⟩, up_nil, up_nil, up_nil, up_nil, ⟨Nat.zero_le _, Nat.zero_le _, Nat.zero_le _, Nat.zero_le _⟩⟩
def Stt.put (S : Stt) : Deed → Stt
  | .lamp c => { S with fl := { S.fl with lamps := S.fl.lamps ++ [(S.cl, ([c], true))] }, cl := S.cl + 1 }
  | .post B => { S with fl := { S.fl with posts := S.fl.posts ++ [(S.cp, B)] }, cp := S.cp + 1 }
  | .pane a b z => { S with fl := { S.fl with panes := S.fl.panes ++ [(S.cn, (a, b, z))] }, cn := S.cn + 1 }
def Stt.room (S : Stt) : Deed → Prop
  | .lamp _ => S.fl.lamps.length < 12
  | .post _ => S.fl.posts.length < 12
  | .pane _ _ _ => S.fl.panes.length < 12
def Deed.num (S : Stt) : Deed → Int
  | .lamp _ => S.cl
  | .post _ => S.cp
  | .pane _ _ _ => S.cn
/-- what a deed leaves of a house -/
def After (K : PySem.W.Frag) (C : Addr) (n : Nat) (H : Hp) (h dx p q : Addr) (m : Nat) (S' : Stt) (told : V) (Q : VK) : Prop := ∀ H', Kept H H' h p q → HsX K C n H' h dx p q (m + 1) S' → Q told H'
/-- from what the doer leaves to what the house is then -/
theorem after_fin {K : PySem.W.Frag} {C : Addr} {n : Nat} {H H4 : Hp} {h d dx s p q s' : Addr} {m : Nat} {S' : Stt} {told : V} {ps qs : List V} {Q : VK} (h1 : H h = some (.ins C dx (fldsH s p q))) (h2 : H p = some (.lst ps)) (h3 : ps.length ≤ m) (h4 : H q = some (.lst qs)) (h6 : p ≠ q) (e04 : Ex H H4) (hS : SttA K n H4 s' S') (k : After K C n H h dx p q m S' told Q) :
    ∀ t, H4 t = none → Q told (upd (upd (upd (upd H4 t (.tup [.ref d, .ref s])) p (.lst (ps ++ [.ref t]))) q (.lst [])) h (.ins C dx (putF "state" (.ref s') (fldsH s p q)))) := fun t ht => by
  have nph : p ≠ h := fun z => by
    rw [z, h1] at h2
    cases h2
  have nqh : q ≠ h := fun z => by
    rw [z, h1] at h4
    cases h4
  have kp := deed_kp (h := h) (p := p) (q := q) (o1 := .tup [V.ref d, .ref s]) (o2 := .lst (ps ++ [.ref t])) (o3 := .lst []) (o4 := .ins C dx (putF "state" (.ref s') (fldsH s p q))) (e04 _ _ h1) (e04 _ _ h2) (e04 _ _ h4) ht
  refine k _ (deed_kept e04 ht) ⟨s', ps ++ [.ref t], [], upd_same, ?_, ?_, ?_, Nat.zero_le _, h6, kp.stt hS⟩
  · rw [upd_ne nph, upd_ne h6, upd_same]
  · rw [List.length_append]
    exact Nat.succ_le_succ h3
  · rw [upd_ne nqh, upd_same]
def spPutX (K : PySem.W.Frag) (C : Addr) (n : Nat) : Sp := fun vs H Q _ => ∃ (h d dx p q : Addr) (m : Nat) (S : Stt) (D : Deed), vs = [.ref h, .ref d] ∧ SqT K H d D.vals ∧ D.good n ∧ S.room D ∧ HsX K C n H h dx p q m S ∧ m ≤ 500 ∧ After K C n H h dx p q m (S.put D) (.int (D.num S)) Q
theorem do_put {K : PySem.W.Frag} {C dF dD cP cL cF cBk cI cS : Addr} {n : Nat} {S0 : Addr → Option Sp} (DL : DoerA K dF dD S0 "lamp" "nnnnn" (spDoLamp K cP cL cF)) (DP : DoerA K dF dD S0 "post" "nnnn" (spDoPost K cP cBk cF)) (DN : DoerA K dF dD S0 "pane" "nnnns" (spDoPane K cP cI cS cF)) (vs : List V) (H : Hp) (Q : VK) (E : XK) (hs : spPutX K C n vs H Q E) : spDo C (spApplied K dF dD S0) vs H Q E := by
  obtain ⟨h, d, dx, p, q, m, S, D, rfl, hd, hg, hrm, a, hm, k⟩ := hs
  obtain ⟨s, ps, qs, h1, h2, h3, h4, h5, h6, hS⟩ := a.ex
  obtain ⟨fl, lk, cm, tl, g1, hF, g3, g4, g5⟩ := hS.ex
  obtain ⟨b, q2, q3, t1, t2, t3, f1, f2, f3, f4, f5, f6, f7⟩ := hF.ex
  obtain ⟨w1, w2, w3, w4⟩ := hS.few
  have hst : StA K H s fl lk cm (bareV b q2 q3) tl (comC S.cl S.cp S.cn S.ck) := ⟨g1, f1, g3, g5⟩
  refine ⟨h, d, dx, s, p, q, fldsH s p q, ps, qs, rfl, h1, rfl, rfl, rfl, h2, h4, h6, by omega, (show 4 < 1000 by decide), fun Q' kk => ?_⟩
  cases D with
  | lamp c =>
    obtain ⟨tk, f, d1, d2, d3⟩ := DL.ex
    refine ⟨s, d, f, "lamp", "nnnnn", tk, chv c, _, rfl, hd, d1, rfl, (show 5 ≤ 100 by decide), d2, d3, fun H2 e2 => ?_⟩
    have hr : S.fl.lamps.length < 12 := hrm
    refine ⟨s, fl, lk, cm, b, bareV b q2 q3, tl, _, t1, S.cl, c.1, c.2.1, c.2.2.1, c.2.2.2.1, c.2.2.2.2, rfl, hst.ext e2, rfl, f2.ext e2, rfl, (show 3 ≤ 10000 by decide), by rw [f5.1]; omega, (show 4 ≤ 10000 by decide), fun z => absurd hg.1 z, fun _ z => absurd hg.2 z, fun _ _ z => by rw [f5.1] at z; omega, fun _ _ _ th H3 e3 hth r' s' fl' q' cm' H4 e4 hr' hSt hq' => ?_⟩
    have e04 := (e2.trans e3).trans e4
    have kp := Kp.of e04
    refine kk r' (.ref s') _ H4 hr' (e04 _ _ h1) (e04 _ _ h2) (e04 _ _ h4) (after_fin (S' := S.put (.lamp c)) h1 h2 h3 h4 h6 e04 ⟨⟨fl', lk, cm', tl, hSt.t, ⟨q', q2, q3, _, t2, t3, hSt.f, hq', f3.ext e04, f4.ext e04, ?_, f6.mono fun _ _ => kp.figv, f7.mono fun _ _ => kp.figv⟩, g3.ext e04, g4.mono fun _ _ => kp.lookV, hSt.c⟩, hS.ul.snoc, hS.up, hS.un, hS.uk, ⟨by show (S.fl.lamps ++ [_]).length ≤ 12; rw [List.length_append]; exact hr, w2, w3, w4⟩⟩ k)
    exact (f5.mono fun _ _ => kp.lampV).put hS.ul ⟨th, rfl, hth.g.keep fun _ _ z => e4 _ _ z⟩
  | post B =>
    obtain ⟨tk, f, d1, d2, d3⟩ := DP.ex
    refine ⟨s, d, f, "post", "nnnn", tk, iv [B.left, B.low, B.right, B.high], _, rfl, hd, d1, rfl, (show 4 ≤ 100 by decide), d2, d3, fun H2 e2 => ?_⟩
    have hr : S.fl.posts.length < 12 := hrm
    refine ⟨s, fl, lk, cm, q2, bareV b q2 q3, tl, _, t2, S.cp, B.left, B.low, B.right, B.high, rfl, hst.ext e2, rfl, f3.ext e2, rfl, (show 3 ≤ 10000 by decide), by rw [f6.1]; omega, (show 4 ≤ 10000 by decide), fun z => absurd hg.1 z, fun _ z => absurd hg.2.1 z, fun _ _ z => by rw [f6.1] at z; omega, fun _ _ _ th H3 e3 hth r' s' fl' q' cm' H4 e4 hr' hSt hq' => ?_⟩
    have e04 := (e2.trans e3).trans e4
    have kp := Kp.of e04
    refine kk r' (.ref s') _ H4 hr' (e04 _ _ h1) (e04 _ _ h2) (e04 _ _ h4) (after_fin (S' := S.put (.post B)) h1 h2 h3 h4 h6 e04 ⟨⟨fl', lk, cm', tl, hSt.t, ⟨b, q', q3, t1, _, t3, hSt.f, f2.ext e04, hq', f4.ext e04, f5.mono fun _ _ => kp.lampV, ?_, f7.mono fun _ _ => kp.figv⟩, g3.ext e04, g4.mono fun _ _ => kp.lookV, hSt.c⟩, hS.ul, hS.up.snoc, hS.un, hS.uk, ⟨w1, by show (S.fl.posts ++ [_]).length ≤ 12; rw [List.length_append]; exact hr, w3, w4⟩⟩ k)
    exact (f6.mono fun _ _ => kp.figv).put hS.up ⟨th, rfl, st_of (e4 _ _ hth), hg.2.2⟩
  | pane x y z =>
    obtain ⟨tk, f, d1, d2, d3⟩ := DN.ex
    refine ⟨s, d, f, "pane", "nnnns", tk, [.int x.1, .int x.2, .int y.1, .int y.2, .str z], _, rfl, hd, d1, rfl, (show 5 ≤ 100 by decide), d2, d3, fun H2 e2 => ?_⟩
    have hr : S.fl.panes.length < 12 := hrm
    refine ⟨s, fl, lk, cm, q3, bareV b q2 q3, tl, _, t3, S.cn, x.1, x.2, y.1, y.2, z, rfl, hst.ext e2, rfl, f4.ext e2, rfl, (show 3 ≤ 10000 by decide), by rw [f7.1]; omega, (show 4 ≤ 10000 by decide), fun z => absurd hg.1 z, fun _ z => absurd z hg.2.1, (fun _ _ z => by rw [hg.2.2.1] at z; cases z), fun _ _ _ z => by rw [f7.1] at z; omega, fun _ _ _ _ th H3 e3 hth r' s' fl' q' cm' H4 e4 hr' hSt hq' => ?_⟩
    have e04 := (e2.trans e3).trans e4
    have kp := Kp.of e04
    refine kk r' (.ref s') _ H4 hr' (e04 _ _ h1) (e04 _ _ h2) (e04 _ _ h4) (after_fin (S' := S.put (.pane x y z)) h1 h2 h3 h4 h6 e04 ⟨⟨fl', lk, cm', tl, hSt.t, ⟨b, q2, q', t1, t2, _, hSt.f, f2.ext e04, f3.ext e04, hq', f5.mono fun _ _ => kp.lampV, f6.mono fun _ _ => kp.figv, ?_⟩, g3.ext e04, g4.mono fun _ _ => kp.lookV, hSt.c⟩, hS.ul, hS.up, hS.un.snoc, hS.uk, ⟨w1, w2, by show (S.fl.panes ++ [_]).length ≤ 12; rw [List.length_append]; exact hr, w4⟩⟩ k)
    obtain ⟨pc, c1, c2, j1, j2, j3, j4⟩ := hth
    exact (f7.mono fun _ _ => kp.figv).put hS.un ⟨th, pc, rfl, st_of (e4 _ _ j1), c1, c2, st_of (e4 _ _ j2), ⟨st_of (e4 _ _ j3), hg.2.2.2.1⟩, st_of (e4 _ _ j4), hg.2.2.2.2⟩
end Hs
namespace Hs
open PySem PySem.Spec PyProof.Rows L2 Evl
/-! ### a lamp switched, a thing dropped -/
def setN {α : Type} (xs : List (Int × α)) (k : Int) (y : α) : List (Int × α) := xs.map fun x => if x.1 = k then (x.1, y) else x
def dropN {α : Type} (xs : List (Int × α)) (k : Int) : List (Int × α) := xs.filter fun x => decide (x.1 ≠ k)
theorem setN_len {α : Type} {xs : List (Int × α)} {k : Int} {y : α} : (setN xs k y).length = xs.length := List.length_map ..
theorem setN_keys {α : Type} {xs : List (Int × α)} {k : Int} {y : α} : (setN xs k y).map (·.1) = xs.map (·.1) := by
  unfold setN
  rw [List.map_map]
  refine List.map_congr_left fun x _ => ?_
  show (if x.1 = k then (x.1, y) else x).1 = x.1
  split <;> rfl
theorem Up.set {α : Type} {xs : List (Int × α)} {k c : Int} {y : α} (h : Up xs c) : Up (setN xs k y) c := by
  refine ⟨by rw [setN_keys]; exact h.1, fun x hx => ?_⟩
  have hm : x.1 ∈ (setN xs k y).map (·.1) := List.mem_map.mpr ⟨x, hx, rfl⟩
  rw [setN_keys] at hm
  obtain ⟨z, hz, e⟩ := List.mem_map.mp hm
  have := h.2 z hz
  have e2 : z.1 = x.1 := e
  omega
theorem Up.drop {α : Type} {xs : List (Int × α)} {k c : Int} (h : Up xs c) : Up (dropN xs k) c := ⟨(h.1.sublist (List.filter_sublist.map _)), fun x hx => h.2 x ((List.mem_filter.mp hx).1)⟩
theorem dropN_len {α : Type} {xs : List (Int × α)} {k : Int} : (dropN xs k).length ≤ xs.length := List.length_filter_le ..
inductive All2 {α β : Type} (G : α → β → Prop) : List α → List β → Prop where
  | nil : All2 G [] []
  | cons {a : α} {b : β} {as : List α} {bs : List β} : G a b → All2 G as bs → All2 G (a :: as) (b :: bs)
theorem TabA.all {α : Type} {G : V → α → Prop} : ∀ {ts : List (Key × V)} {xs : List (Int × α)}, TabA G ts xs → All2 (fun t x => t.1 = Sum.inl x.1 ∧ G t.2 x.2) ts xs
  | [], [], _ => .nil
  | [], _ :: _, h => nomatch h.1
  | _ :: _, [], h => nomatch h.1
  | t :: ts, x :: xs, h => .cons (h.2 0 t.1 t.2 x rfl rfl) (TabA.all ⟨Nat.succ.inj h.1, fun i k v y h1 h2 => h.2 (i + 1) k v y h1 h2⟩)
theorem TabA.of {α : Type} {G : V → α → Prop} {ts : List (Key × V)} {xs : List (Int × α)} (h : All2 (fun t x => t.1 = Sum.inl x.1 ∧ G t.2 x.2) ts xs) : TabA G ts xs := by
  induction h with
  | nil => exact tab_nil
  | cons a _ ih =>
    refine ⟨by rw [List.length_cons, List.length_cons, ih.1], fun i k v x h1 h2 => ?_⟩
    cases i with
    | zero =>
      cases h1
      cases h2
      exact a
    | succ i => exact ih.2 i k v x h1 h2
theorem TabA.set {α : Type} {G : V → α → Prop} {ts : List (Key × V)} {xs : List (Int × α)} (h : TabA G ts xs) {k : Int} {x0 : α} (hm : (k, x0) ∈ xs) {v : V} {y : α} (g : G v y) : TabA G (putK ts (.inl k) v) (setN xs k y) := by
  have ha : (ts.any fun kv => decide (kv.1 = (Sum.inl k : Key))) = true := by
    rw [List.any_eq_true]
    have hk : (Sum.inl k : Key) ∈ ts.map (·.1) := by
      rw [h.keys]
      exact List.mem_map.mpr ⟨k, List.mem_map.mpr ⟨_, hm, rfl⟩, rfl⟩
    obtain ⟨t, ht, e⟩ := List.mem_map.mp hk
    exact ⟨t, ht, decide_eq_true e⟩
  unfold putK
  rw [if_pos ha]
  unfold setN
  refine TabA.of ?_
  have hf := h.all
  clear h hm ha
  induction hf with
  | nil => exact .nil
  | @cons t x tr xr a _ ih =>
    refine .cons ?_ ih
    by_cases e : x.1 = k
    · have e2 : t.1 = (Sum.inl k : Key) := by rw [a.1, e]
      show (if t.1 = Sum.inl k then (t.1, v) else t).1 = Sum.inl (if x.1 = k then (x.1, y) else x).1 ∧ G (if t.1 = Sum.inl k then (t.1, v) else t).2 (if x.1 = k then (x.1, y) else x).2
      rw [if_pos e2, if_pos e]
      exact ⟨a.1, g⟩
    · have e2 : ¬ t.1 = (Sum.inl k : Key) := by
        rw [a.1]
        exact fun z => e (Sum.inl.inj z)
      show (if t.1 = Sum.inl k then (t.1, v) else t).1 = Sum.inl (if x.1 = k then (x.1, y) else x).1 ∧ G (if t.1 = Sum.inl k then (t.1, v) else t).2 (if x.1 = k then (x.1, y) else x).2
      rw [if_neg e2, if_neg e]
      exact a
theorem TabA.drop {α : Type} {G : V → α → Prop} {ts : List (Key × V)} {xs : List (Int × α)} (h : TabA G ts xs) {k : Int} : TabA G (dropK ts (.inl k)) (dropN xs k) := by
  unfold dropK dropN
  refine TabA.of ?_
  have hf := h.all
  clear h
  induction hf with
  | nil => exact .nil
  | @cons t x tr xr a _ ih =>
    by_cases e : x.1 = k
    · have e2 : ¬ t.1 ≠ (Sum.inl k : Key) := by
        rw [a.1, e]
        exact fun z => z rfl
      rw [List.filter_cons_of_neg (by simpa using e2), List.filter_cons_of_neg (by simpa using e)]
      exact ih
    · have e2 : t.1 ≠ (Sum.inl k : Key) := by
        rw [a.1]
        exact fun z => e (Sum.inl.inj z)
      rw [List.filter_cons_of_pos (by simpa using e2), List.filter_cons_of_pos (by simpa using e)]
      exact .cons a ih
/-- a thing that stands: its entry -/
theorem TabA.here {α : Type} {G : V → α → Prop} {ts : List (Key × V)} {xs : List (Int × α)} {c : Int} (h : TabA G ts xs) (u : Up xs c) {k : Int} {x : α} (hm : (k, x) ∈ xs) : ∃ v, valV ts (.inl k) = some v ∧ G v x := by
  obtain ⟨i, hi, e⟩ := List.mem_iff_getElem.mp hm
  exact h.get u.1 (i := i) (x := (k, x)) (by rw [List.getElem?_eq_getElem hi, e])
def Flr.keys (F : Flr) (so : Str) : List Int := if so = "lamp" then F.lamps.map (·.1) else if so = "post" then F.posts.map (·.1) else F.panes.map (·.1)
def Flr.drop (F : Flr) (so : Str) (k : Int) : Flr := if so = "lamp" then { F with lamps := dropN F.lamps k } else if so = "post" then { F with posts := dropN F.posts k } else { F with panes := dropN F.panes k }
def Stt.drop (S : Stt) (so : Str) (k : Int) : Stt := { S with fl := S.fl.drop so k }
theorem drop_lamp {S : Stt} {k : Int} : S.drop "lamp" k = { S with fl := { S.fl with lamps := dropN S.fl.lamps k } } := by
  unfold Stt.drop Flr.drop
  rw [if_pos rfl]
theorem drop_post {S : Stt} {k : Int} : S.drop "post" k = { S with fl := { S.fl with posts := dropN S.fl.posts k } } := by
  have e : ¬ ("post" : Str) = "lamp" := by decide +kernel
  unfold Stt.drop Flr.drop
  rw [if_neg e, if_pos rfl]
theorem drop_pane {S : Stt} {k : Int} : S.drop "pane" k = { S with fl := { S.fl with panes := dropN S.fl.panes k } } := by
  have e : ¬ ("pane" : Str) = "lamp" := by decide +kernel
  have e2 : ¬ ("pane" : Str) = "post" := by decide +kernel
  unfold Stt.drop Flr.drop
  rw [if_neg e, if_neg e2]
def Stt.setL (S : Stt) (k : Int) (l : LT) : Stt := { S with fl := { S.fl with lamps := setN S.fl.lamps k l } }
def spSwitchG (K : PySem.W.Frag) (n : Nat) : Sp := fun vs H Q _ => ∃ (s : Addr) (S : Stt) (k : Int) (l : LT), vs = [.ref s, .int k] ∧ SttA K n H s S ∧ (k, l) ∈ S.fl.lamps ∧ ∀ (r s' : Addr) (H' : Hp), Ex H H' → H' r = some (.tup [.ref s', .non]) → SttA K n H' s' (S.setL k (l.1, !l.2)) → Q (.ref r) H'
def spWithout : Sp := fun vs H Q _ => ∃ (a b : Addr) (so : Str) (n : Int) (kvs ts : List (Key × V)), vs = [.ref a, .str so, .int n] ∧ Fz H a kvs ∧ valV kvs (.inr so) = some (.ref b) ∧ Fz H b ts ∧ kvs.length ≤ 10000 ∧ ts.length ≤ 10000 ∧ (ts.map (·.1)).Nodup ∧ (∀ p ∈ ts, ∃ i : Int, p.1 = .inl i) ∧
  ∀ (p q : Addr) (H' : Hp), H p = none → Ex H H' → Fz H' q (dropK ts (.inl n)) → Fz H' p (putK kvs (.inr so) (.ref q)) → Q (.ref p) H'
def spDropG (K : PySem.W.Frag) (n : Nat) : Sp := fun vs H Q _ => ∃ (s : Addr) (S : Stt) (so : Str) (k : Int), vs = [.ref s, .str so, .int k] ∧ SttA K n H s S ∧ (so = "lamp" ∨ so = "post" ∨ so = "pane") ∧ k ∈ S.fl.keys so ∧ (so = "lamp" → ∀ x ∈ S.looks, k ∉ x.2.2.2.lamps.map (·.1)) ∧ ∀ (r s' : Addr) (H' : Hp), Ex H H' → H' r = some (.tup [.ref s', .non]) → SttA K n H' s' (S.drop so k) → Q (.ref r) H'
section
variable {P : Program} {w : World} {K : PySem.W.Frag} {mg : Str → Option Value} {base : Heap} {f C S0 : Addr} {fd : FuncData} {n : Nat}
theorem ok_switchG (F : FnP K "do_switch" sSwitch f fd) (O_thing_of : Own P w K mg base 1 "thing_of" ["floor", "sort", "number"] (spThing K)) (O_with_thing : Own P w K mg base 1 "with_thing" ["floor", "sort", "number", "thing"] spWith) : FnOk P w K mg base (L2.CX P w) 2 f fd ["state", "number"] (spSwitchG K n) := by
  have nd := scSwitch.nd
  refine F.ok scSwitch (fun vs H Q E h => ?_) (fun cdv A outer s H vs Q E hr h => ⟨_, (pss_cons (ps_asg (pv 0) (pg_tup rfl (pgs_cons (pg_name (i := 2) nd rfl (.inl rfl)) (pgs_cons (pg_name (i := 3) nd rfl (.inl rfl)) (pgs_cons (pg_name (i := 4) nd rfl (.inl rfl)) pgs_nil)))))
  (pss_cons (ps_asg (Hs.pe_own O_thing_of hr (by first | decide | omega) (by rfl) (pa_cons (pv 2) (pa_cons pe_str (pa_cons (pv 1) pa_nil)))) (pg_tup rfl (pgs_cons (pg_name (i := 5) nd rfl (.inl rfl)) (pgs_cons (pg_name (i := 6) nd rfl (.inl rfl)) pgs_nil))))
  (pss_one (ps_ret (pe_tup (pa_cons (pe_tup (pa_cons (Hs.pe_own O_with_thing hr (by first | decide | omega) (by rfl) (pa_cons (pv 2) (pa_cons pe_str (pa_cons (pv 1) (pa_cons (pe_tup (pa_cons (pv 5) (pa_cons (pe_not (pv 6)) pa_nil))) pa_nil))))) (pa_cons (pv 3) (pa_cons (pv 4) pa_nil)))) (pa_cons pe_non pa_nil))))))), ?_⟩)
  · obtain ⟨s, S, k, l, rfl, _⟩ := h
    rfl
  · obtain ⟨s, S, num, l, rfl, hS, hm, k⟩ := h
    obtain ⟨fl, lk, cm, tl, g1, hF, g3, g4, g5⟩ := hS.ex
    obtain ⟨b, q2, q3, t1, t2, t3, f1, f2, f3, f4, f5, f6, f7⟩ := hF.ex
    obtain ⟨w1, w2, w3, w4⟩ := hS.few
    obtain ⟨_, hv, th, rfl, hL⟩ := f5.here hS.ul hm
    refine ⟨_, rfl, s, _, rfl, g1, rfl, _, _, rfl, _, _, rfl, _, _, rfl, rfl, ?_⟩
    dsimp only [gName, List.set]
    refine ⟨_, rfl, _, rfl, fl, b, "lamp", num, .ref th, bareV b q2 q3, t1, rfl, f1, by decide +kernel, rfl, f2, hv, fun H1 e1 => ?_⟩
    obtain ⟨ch, ps, h1, h2, h3, h4⟩ := (hL.keep fun _ _ z => e1 _ _ z : LampG H1 th l.1 l.2).ex
    refine ⟨th, _, rfl, st_of h1, rfl, _, _, rfl, _, _, rfl, rfl, ?_⟩
    dsimp only [gName, List.set]
    refine ⟨_, rfl, _, rfl, _, rfl, _, rfl, l.2, rfl, sz_of (by simp), fun th' hth' => ?_⟩
    have x1 := Ex.new (o := .tup [V.ref ch, .bl (!l.2)]) hth'
    have e0x := e1.trans x1
    refine ⟨fl, b, "lamp", num, .ref th', bareV b q2 q3, t1, rfl, f1.ext e0x, rfl, f2.ext e0x, (show 3 ≤ 10000 by decide), by rw [f5.1]; omega, fun p q H2 hp e2 hq hp2 => ⟨_, rfl, _, rfl, sz_of (by simp), fun s' hs' => ⟨sz_of (by simp), fun r hr' => ?_⟩⟩⟩
    have x2 := Ex.new (o := .tup [V.ref p, .ref lk, .ref cm]) hs'
    have x3 := Ex.new (o := .tup [V.ref s', .non]) hr'
    have e23 := x2.trans x3
    have e13 := (x1.trans e2).trans e23
    have e03 := e1.trans e13
    have kp := Kp.of e03
    refine k r s' _ e03 upd_same ⟨⟨p, lk, cm, tl, st_of (x3 _ _ upd_same), ⟨q, q2, q3, _, t2, t3, hp2.ext e23, hq.ext e23, f3.ext e03, f4.ext e03, (f5.mono fun _ _ => kp.lampV).set (x0 := l) hm ⟨th', rfl, ch, ps, (e2.trans e23) _ _ upd_same, e13 _ _ h2, h3, fun i p' c hp' hc => e13 _ _ (h4 i p' c hp' hc)⟩, f6.mono fun _ _ => kp.figv, f7.mono fun _ _ => kp.figv⟩, g3.ext e03, g4.mono fun _ _ => kp.lookV, g5.ext e03⟩, hS.ul.set, hS.up, hS.un, hS.uk, ⟨by show (setN _ _ _).length ≤ 12; rw [setN_len]; exact w1, w2, w3, w4⟩⟩
abbrev sWithout : Stmt := top 69
theorem scWithout : FnScope ["floor", "sort", "number", "other", "thing"] ["floor", "sort", "number"] (defScope sWithout) := ⟨rfl, rfl, rfl, by decide +kernel, rfl, by decide +kernel, by decide +kernel⟩
theorem dropK_next {ts : List (Key × V)} {i : Nat} {k : Key} {v : V} {x : Key} (hn : (ts.map (·.1)).Nodup) (h : ts[i]? = some (k, v)) : dropK (ts.take (i + 1)) x = if k ≠ x then putK (dropK (ts.take i) x) k v else dropK (ts.take i) x := by
  have ht : ts.take (i + 1) = ts.take i ++ [(k, v)] := by rw [List.take_add_one, h] <;> rfl
  unfold dropK
  rw [ht, List.filter_append]
  by_cases e : k = x
  · rw [if_neg (fun z => z e), List.filter_cons_of_neg (by simpa using e), List.filter_nil, List.append_nil]
  · rw [if_pos e, List.filter_cons_of_pos (by simpa using e), List.filter_nil, putK_new]
    intro p hp ep
    have hpm := (List.mem_filter.mp hp).1
    obtain ⟨j, hj, ej⟩ := List.mem_iff_getElem.mp hpm
    have hj2 : j < i := by
      rw [List.length_take] at hj
      omega
    rw [List.getElem_take] at ej
    have hi := (List.getElem?_eq_some_iff.mp h).1
    have e2 : (ts.map (·.1))[j]? = (ts.map (·.1))[i]? := by
      rw [List.getElem?_map, List.getElem?_map, h, List.getElem?_eq_getElem (by omega)]
      show some (ts[j]).1 = some k
      rw [ej, ep]
    have := (List.getElem?_inj (by rw [List.length_map]; omega) hn).mp e2
    omega
theorem ok_without (F : FnP K "without_thing" sWithout f fd) : FnOk P w K mg base CX0 1 f fd ["floor", "sort", "number"] spWithout := by
  have nd := scWithout.nd
  refine F.ok scWithout (fun vs H Q E h => ?_) (fun cdv A outer s H vs Q E hr h => ⟨_, PSs.nox (pss_one (ps_ret (Hs.pe_frz (Hs.pe_dstar (pv 0) (pv 1) (Hs.pe_frz (pe_dc (own := [("other", 3), ("thing", 4)]) (g := (gTup K 2 (gCons (gName 3) (gCons (gName 4) gNil)))) rfl nd (pi_items (pe_dget (Hs.un1 hr) (pv 0) (pv 1) (fun _ _ => rfl))) (blkOk_by (N := ["floor", "sort", "number", "other", "thing"]) (sc := defScope (Hs.top 69)) (by decide +kernel)) (fun _ _ _ _ _ => (pg_tup rfl (pgs_cons (pg_name (i := 3) nd rfl (Or.inl rfl)) (pgs_cons (pg_name (i := 4) nd rfl (Or.inl rfl)) pgs_nil)))) (fun _ _ _ _ _ => (pts_one (pt_cmpR op_ne (pv 3) (pv 2) (nomark _)))) (fun _ _ _ _ _ => (pv 3)) (fun _ _ _ _ _ => (pv 4)))))))), ?_⟩)
  · obtain ⟨a, b, so, n, kvs, ts, rfl, _⟩ := h
    rfl
  · obtain ⟨a, b, so, n, kvs, ts, rfl, ha, hv, hb, l1, l2, hn, hki, k⟩ := h
    refine eu_dstarG (σ := [some (.ref a), some (.str so), some (.int n), none, none]) (key := .inr so) (G := fun z H2 => ∃ q, z = .ref q ∧ Fz H2 q (dropK ts (.inl n))) (ev_var rfl) (ev_var rfl) ?inn (fun z H2 H3 ⟨q, ez, hq⟩ e => ⟨q, ez, hq.extF e⟩) ha l1 H (Ex.refl H) _ fun p z H2 hp e2 ⟨q, ez, hq⟩ hz => ?_
    case inn =>
      intro H1 e1 Q' q'
      obtain ⟨od, hb1⟩ := hb.ext e1
      refine ⟨_, rfl, _, rfl, a, _, rfl, by have z := (ha.ext e1).get (k := .inr so); rw [hv] at z; exact z, b, od, ts, rfl, hb1, fun D hD => ?_⟩
      refine dc_it walk_items (fun i H' => Ex H1 H' ∧ H' D = some (.dK (dropK (ts.take i) (.inl n)))) ⟨Ex.new hD, upd_same⟩ (fun i H' _ p => p.1 _ _ hb1) (fun i x H' H'' hi p y => ?_) (fun H' p => ?_)
      · obtain ⟨e, hD'⟩ := p
        obtain ⟨T, x1, x2, rfl, hT, rfl, y1, y2⟩ := y
        obtain ⟨⟨key, v⟩, hkv⟩ : ∃ z, ts[i]? = some z := ⟨_, List.getElem?_eq_getElem hi⟩
        dsimp only at y1 y2
        rw [hkv] at y1 y2
        cases y1
        cases y2
        have eT := Ex.new (o := .tup [kV key, v]) hT
        have hDT := eT _ _ hD'
        have hnx := dropK_next (x := .inl n) hn hkv
        have hlen : (dropK (ts.take i) (Sum.inl n : Key)).length < sizeLine := by
          have h1 : (dropK (ts.take i) (Sum.inl n : Key)).length ≤ (ts.take i).length := List.length_filter_le ..
          rw [List.length_take] at h1
          rw [sizeLine_eq]
          omega
        refine ⟨T, _, rfl, st_of upd_same, rfl, _, _, rfl, _, _, rfl, rfl, rfl, ?_⟩
        obtain ⟨ki, rfl⟩ := hki (key, v) (List.mem_of_getElem? hkv)
        refine (et_test (ev_op (x := .int ki) (y := .int n) (ev_var rfl) (ev_var rfl) (rv_ne rfl))) _ (Ex.refl _) _ fun H3 e3 => ?_
        have hD3 := e3 _ _ hDT
        have e13 := (e.trans eT).trans e3
        by_cases ek : ki = n
        · have z0 : ¬ (Sum.inl ki : Key) ≠ Sum.inl n := fun z => z (by rw [ek])
          rw [if_neg z0] at hnx
          refine ite_F (by rw [ek]; simp) ⟨e13, ?_⟩
          rw [hnx]
          exact hD3
        · have z0 : (Sum.inl ki : Key) ≠ Sum.inl n := fun z => ek (Sum.inl.inj z)
          rw [if_pos z0] at hnx
          refine ite_T (by simp [ek]) ⟨_, rfl, _, rfl, _, .inl ki, rfl, hD3, hlen, Ex.mut e13 hD, ?_⟩
          rw [upd_same, hnx]
      · exact ⟨D, _, rfl, p.2, True.intro, fun od' => q' _ _ (Ex.mut p.1 hD) ⟨D, rfl, od', by rw [upd_same, List.take_length]⟩⟩
    · subst ez
      exact k p q H2 hp e2 hq hz
abbrev sDrop : Stmt := top 86
theorem scDrop : FnScope ["state", "sort", "number", "floor", "looks", "coming", "look", "place", "light", "stood"] ["state", "sort", "number"] (defScope sDrop) := ⟨rfl, rfl, rfl, by decide +kernel, rfl, by decide +kernel, by decide +kernel⟩
theorem TabA.ints {α : Type} {G : V → α → Prop} {ts : List (Key × V)} {xs : List (Int × α)} (h : TabA G ts xs) : ∀ p ∈ ts, ∃ i : Int, p.1 = .inl i := fun p hp => by
  obtain ⟨j, hj, e⟩ := List.mem_iff_getElem.mp hp
  have hx : j < xs.length := by
    rw [← h.1]
    exact hj
  have z := (h.2 j p.1 p.2 xs[j] (by rw [List.getElem?_eq_getElem hj, e]) (List.getElem?_eq_getElem hx)).1
  exact ⟨_, z⟩
theorem TabA.gone {α : Type} {G : V → α → Prop} {ts : List (Key × V)} {xs : List (Int × α)} (h : TabA G ts xs) {k : Int} (hk : k ∉ xs.map (·.1)) : valV ts (.inl k) = none := by
  cases hv : valV ts (.inl k) with
  | none => rfl
  | some v =>
    have ha := valV_any (Sum.inl k : Key) ts
    rw [hv] at ha
    obtain ⟨t, ht, e⟩ := List.any_eq_true.mp ha
    have hm : t.1 ∈ ts.map (·.1) := List.mem_map.mpr ⟨t, ht, rfl⟩
    rw [h.keys, of_decide_eq_true e] at hm
    obtain ⟨z, hz, e2⟩ := List.mem_map.mp hm
    exact absurd (by rw [← Sum.inl.inj e2]; exact hz) hk
theorem ok_drop (F : FnP K "do_drop" sDrop f fd) (O_thing_of : Own P w K mg base 1 "thing_of" ["floor", "sort", "number"] (spThing K)) (O_without_thing : Own P w K mg base 1 "without_thing" ["floor", "sort", "number"] spWithout) : FnOk P w K mg base (L2.CX P w) 2 f fd ["state", "sort", "number"] (spDropG K n) := by
  have nd := scDrop.nd
  refine F.ok scDrop (fun vs H Q E h => ?_) (fun cdv A outer s H vs Q E hr h => ⟨_, (pss_cons (ps_asg (pv 0) (pg_tup rfl (pgs_cons (pg_name (i := 3) nd rfl (.inl rfl)) (pgs_cons (pg_name (i := 4) nd rfl (.inl rfl)) (pgs_cons (pg_name (i := 5) nd rfl (.inl rfl)) pgs_nil)))))
  (pss_cons (ps_expr (Hs.pe_own O_thing_of hr (by first | decide | omega) (by rfl) (pa_cons (pv 3) (pa_cons (pv 1) (pa_cons (pv 2) pa_nil)))))
  (Evl.pss_cut (ps_if (pt_cmpR op_eq (pv 1) pe_str (nomark _)) (pss_one (ps_for (passes_of rfl) rfl (pi_items (pv 4)) (pg_tup rfl (pgs_cons (pg_name (i := 6) nd rfl (.inl rfl)) (pgs_cons (pg_tup rfl (pgs_cons (pg_name (i := 7) nd rfl (.inl rfl)) (pgs_cons (pg_name (i := 8) nd rfl (.inl rfl)) (pgs_cons (pg_name (i := 9) nd rfl (.inl rfl)) pgs_nil)))) pgs_nil))) (pss_one (ps_if (pt_cmp (pc_din (Hs.un1 hr) (pv 2) (pe_dget (Hs.un1 hr) (pv 9) pe_str (fun _ _ => rfl)))) (pss_one ps_never) pss_nil)))) pss_nil)
  (pss_one (ps_ret (pe_tup (pa_cons (pe_tup (pa_cons (Hs.pe_own O_without_thing hr (by first | decide | omega) (by rfl) (pa_cons (pv 3) (pa_cons (pv 1) (pa_cons (pv 2) pa_nil)))) (pa_cons (pv 4) (pa_cons (pv 5) pa_nil)))) (pa_cons pe_non pa_nil)))))))), ?_⟩)
  · obtain ⟨s, S, so, k, rfl, _⟩ := h
    rfl
  · obtain ⟨s, S, so, num, rfl, hS, hso, hm, hlk, k⟩ := h
    obtain ⟨fl, lk, cm, tl, g1, hF, g3, g4, g5⟩ := hS.ex
    obtain ⟨b, q2, q3, t1, t2, t3, f1, f2, f3, f4, f5, f6, f7⟩ := hF.ex
    obtain ⟨w1, w2, w3, w4⟩ := hS.few
    refine ⟨_, rfl, s, _, rfl, g1, rfl, _, _, rfl, _, _, rfl, _, _, rfl, rfl, ?_⟩
    dsimp only [gName, List.set]
    -- the table of the sort
    obtain ⟨bq, ts, hts, hv, hb, hnd, hin, hl, v, hval⟩ : ∃ (bq : Addr) (ts : List (Key × V)), ((so = "lamp" → ts = t1) ∧ (so = "post" → ts = t2) ∧ (so = "pane" → ts = t3)) ∧ valV (bareV b q2 q3) (.inr so) = some (.ref bq) ∧ Fz H bq ts ∧ (ts.map (·.1)).Nodup ∧ (∀ p ∈ ts, ∃ i : Int, p.1 = .inl i) ∧ ts.length ≤ 12 ∧ ∃ v, valV ts (.inl num) = some v := by
      rcases hso with rfl | rfl | rfl
      · obtain ⟨x, hx, rfl⟩ := List.mem_map.mp (show num ∈ S.fl.lamps.map (·.1) from hm)
        obtain ⟨v, hv, _⟩ := f5.here hS.ul (k := x.1) (x := x.2) hx
        exact ⟨b, t1, ⟨fun _ => rfl, fun z => absurd z (by decide +kernel), fun z => absurd z (by decide +kernel)⟩, rfl, f2, f5.nd hS.ul.1, f5.ints, by rw [f5.1]; exact w1, v, hv⟩
      · obtain ⟨x, hx, rfl⟩ := List.mem_map.mp (show num ∈ S.fl.posts.map (·.1) from hm)
        obtain ⟨v, hv, _⟩ := f6.here hS.up (k := x.1) (x := x.2) hx
        exact ⟨q2, t2, ⟨fun z => absurd z (by decide +kernel), fun _ => rfl, fun z => absurd z (by decide +kernel)⟩, rfl, f3, f6.nd hS.up.1, f6.ints, by rw [f6.1]; exact w2, v, hv⟩
      · obtain ⟨x, hx, rfl⟩ := List.mem_map.mp (show num ∈ S.fl.panes.map (·.1) from hm)
        obtain ⟨v, hv, _⟩ := f7.here hS.un (k := x.1) (x := x.2) hx
        exact ⟨q3, t3, ⟨fun z => absurd z (by decide +kernel), fun z => absurd z (by decide +kernel), fun _ => rfl⟩, rfl, f4, f7.nd hS.un.1, f7.ints, by rw [f7.1]; exact w3, v, hv⟩
    have hsi : inV (.str so) sortsV = true := by rcases hso with rfl | rfl | rfl <;> decide +kernel
    refine ⟨_, rfl, _, rfl, _, rfl, fl, bq, so, num, v, bareV b q2 q3, ts, rfl, f1, hsi, hv, hb, hval, fun H1 e1 => ?_⟩
    refine q_cut (M := fun σ' H' => Ex H H' ∧ ∃ v6 v7 v8 v9 : Option V, σ' = [some (.ref s), some (.str so), some (.int num), some (.ref fl), some (.ref lk), some (.ref cm), v6, v7, v8, v9]) ?_ ?_
    · refine s_when (b := decide (so = "lamp")) (et_is (et_test (ev_op (ev_var rfl) ev_c (rv_eq rfl))) (by by_cases e : so = "lamp" <;> simp [e])) (fun ht H2 e2 => ?_) (fun ht H2 e2 => ⟨e1.trans e2, none, none, none, none, rfl⟩)
      have hlamp := of_decide_eq_true ht
      have e12 := e1.trans e2
      obtain ⟨od, hlk3⟩ := g3
      refine ⟨_, rfl, lk, od, tl, rfl, e12 _ _ hlk3, ?_⟩
      refine for_it walk_items (fun i σ' H' => Ex H H' ∧ ∃ v6 v7 v8 v9 : Option V, σ' = [some (.ref s), some (.str so), some (.int num), some (.ref fl), some (.ref lk), some (.ref cm), v6, v7, v8, v9]) ⟨e12, none, none, none, none, rfl⟩ (fun i σ' H' _ q => q.1 _ _ hlk3) (fun i x σ' H' H'' hi q y => ?_) (fun σ' H' q => q)
      obtain ⟨e, v6, v7, v8, v9, rfl⟩ := q
      obtain ⟨T, x1, x2, rfl, hT, rfl, y1, y2⟩ := y
      obtain ⟨⟨key, vv⟩, hkv⟩ : ∃ z, tl[i]? = some z := ⟨_, List.getElem?_eq_getElem hi⟩
      obtain ⟨lo, hlo⟩ : ∃ z, S.looks[i]? = some z := ⟨_, List.getElem?_eq_getElem (by rw [← g4.1]; exact hi)⟩
      dsimp only at y1 y2
      rw [hkv] at y1 y2
      cases y1
      cases y2
      obtain ⟨_, la, pl, lt, fq, rfl, j1, j2, j3, j4⟩ := g4.2 i key vv lo hkv hlo
      have eT := Ex.new (o := .tup [kV key, .ref la]) hT
      have eT2 := e.trans eT
      refine ⟨T, _, rfl, st_of upd_same, rfl, _, _, rfl, _, _, rfl, ⟨la, _, rfl, ex_t eT2 j1, rfl, _, _, rfl, _, _, rfl, _, _, rfl, rfl, rfl, ?_⟩⟩
      dsimp only [gName, List.set]
      obtain ⟨b', q2', q3', t1', t2', t3', f1', f2', _, _, f5', _, _⟩ := (j4.ext eT2).ex
      have hgone := f5'.gone (hlk hlamp lo (List.mem_of_getElem? hlo))
      refine s_when (b := false) (fun H3 e3 Q' q' => ⟨_, rfl, _, rfl, fq, _, rfl, by have z := (f1'.ext e3).get (k := .inr "lamp"); exact z, b', _, rfl, by have z := (f2'.ext e3).get (k := .inl num); rw [hgone] at z; exact z, false, rfl, q' H3 (Ex.refl H3)⟩) (fun ht => Bool.noConfusion ht) (fun _ H3 e3 => ⟨eT2.trans e3, _, _, _, _, rfl⟩)
    · rintro σ' H2 ⟨e2, v6, v7, v8, v9, rfl⟩
      refine ⟨_, rfl, _, rfl, _, rfl, fl, bq, so, num, bareV b q2 q3, ts, rfl, f1.ext e2, hv, hb.ext e2, (show 3 ≤ 10000 by decide), by omega, hnd, hin, fun p q H3 hp e3 hq hp3 => ⟨_, rfl, _, rfl, sz_of (by simp), fun s' hs' => ⟨sz_of (by simp), fun r hr' => ?_⟩⟩⟩
      have x2 := Ex.new (o := .tup [V.ref p, .ref lk, .ref cm]) hs'
      have x3 := Ex.new (o := .tup [V.ref s', .non]) hr'
      have e23 := x2.trans x3
      have e03 := (e2.trans e3).trans e23
      have kp := Kp.of e03
      have hp4 := hp3.ext e23
      have hq4 := hq.ext e23
      refine k r s' _ e03 upd_same ?_
      have hs3 := st_of (K := K) (x3 _ _ (upd_same (H := H3) (a := s') (o := .tup [V.ref p, .ref lk, .ref cm])))
      rcases hso with rfl | rfl | rfl
      · rw [drop_lamp]
        rw [hts.1 rfl] at hq4
        exact ⟨⟨p, lk, cm, tl, hs3, ⟨q, q2, q3, _, t2, t3, hp4, hq4, f3.ext e03, f4.ext e03, (f5.mono fun _ _ => kp.lampV).drop, f6.mono fun _ _ => kp.figv, f7.mono fun _ _ => kp.figv⟩, g3.ext e03, g4.mono fun _ _ => kp.lookV, g5.ext e03⟩, hS.ul.drop, hS.up, hS.un, hS.uk, ⟨Nat.le_trans dropN_len w1, w2, w3, w4⟩⟩
      · rw [drop_post]
        rw [hts.2.1 rfl] at hq4
        exact ⟨⟨p, lk, cm, tl, hs3, ⟨b, q, q3, t1, _, t3, hp4, f2.ext e03, hq4, f4.ext e03, f5.mono fun _ _ => kp.lampV, (f6.mono fun _ _ => kp.figv).drop, f7.mono fun _ _ => kp.figv⟩, g3.ext e03, g4.mono fun _ _ => kp.lookV, g5.ext e03⟩, hS.ul, hS.up.drop, hS.un, hS.uk, ⟨w1, Nat.le_trans dropN_len w2, w3, w4⟩⟩
      · rw [drop_pane]
        rw [hts.2.2 rfl] at hq4
        exact ⟨⟨p, lk, cm, tl, hs3, ⟨b, q2, q, t1, t2, _, hp4, f2.ext e03, f3.ext e03, hq4, f5.mono fun _ _ => kp.lampV, f6.mono fun _ _ => kp.figv, (f7.mono fun _ _ => kp.figv).drop⟩, g3.ext e03, g4.mono fun _ _ => kp.lookV, g5.ext e03⟩, hS.ul, hS.up, hS.un.drop, hS.uk, ⟨w1, w2, Nat.le_trans dropN_len w3, w4⟩⟩
end
end Hs
namespace Hs
open PySem PySem.Spec PyProof.Rows L2 Evl
/-! ### houses: switched, dropped, twins, their light -/
def spSwitchX (K : PySem.W.Frag) (C : Addr) (n : Nat) : Sp := fun vs H Q _ => ∃ (h d dx p q : Addr) (m : Nat) (S : Stt) (k : Int) (l : LT), vs = [.ref h, .ref d] ∧ SqT K H d [.str "switch", .int k] ∧ HsX K C n H h dx p q m S ∧ m ≤ 500 ∧ (k, l) ∈ S.fl.lamps ∧ After K C n H h dx p q m (S.setL k (l.1, !l.2)) .non Q
def spDropX (K : PySem.W.Frag) (C : Addr) (n : Nat) : Sp := fun vs H Q _ => ∃ (h d dx p q : Addr) (m : Nat) (S : Stt) (so : Str) (k : Int), vs = [.ref h, .ref d] ∧ SqT K H d [.str "drop", .str so, .int k] ∧ HsX K C n H h dx p q m S ∧ m ≤ 500 ∧ (so = "lamp" ∨ so = "post" ∨ so = "pane") ∧ k ∈ S.fl.keys so ∧ (so = "lamp" → ∀ x ∈ S.looks, k ∉ x.2.2.2.lamps.map (·.1)) ∧ After K C n H h dx p q m (S.drop so k) .non Q
theorem do_switchX {K : PySem.W.Frag} {C dF dD : Addr} {n : Nat} {S0 : Addr → Option Sp} (DW : DoerA K dF dD S0 "switch" "n" (spSwitchG K n)) (vs : List V) (H : Hp) (Q : VK) (E : XK) (hs : spSwitchX K C n vs H Q E) : spDo C (spApplied K dF dD S0) vs H Q E := by
  obtain ⟨h, d, dx, p, q, m, S, num, l, rfl, hd, a, hm, hl, k⟩ := hs
  obtain ⟨s, ps, qs, h1, h2, h3, h4, h5, h6, hS⟩ := a.ex
  obtain ⟨tk, f, d1, d2, d3⟩ := DW.ex
  refine ⟨h, d, dx, s, p, q, fldsH s p q, ps, qs, rfl, h1, rfl, rfl, rfl, h2, h4, h6, by omega, (show 4 < 1000 by decide), fun Q' kk => ?_⟩
  refine ⟨s, d, f, "switch", "n", tk, [.int num], _, rfl, hd, d1, rfl, (show 1 ≤ 100 by decide), d2, d3, fun H2 e2 => ?_⟩
  exact ⟨s, S, num, l, rfl, hS.ext e2, hl, fun r s' H3 e3 hr hS3 => kk r (.ref s') _ H3 hr ((e2.trans e3) _ _ h1) ((e2.trans e3) _ _ h2) ((e2.trans e3) _ _ h4) (after_fin (S' := S.setL num (l.1, !l.2)) h1 h2 h3 h4 h6 (e2.trans e3) hS3 k)⟩
theorem do_dropX {K : PySem.W.Frag} {C dF dD : Addr} {n : Nat} {S0 : Addr → Option Sp} (DW : DoerA K dF dD S0 "drop" "wn" (spDropG K n)) (vs : List V) (H : Hp) (Q : VK) (E : XK) (hs : spDropX K C n vs H Q E) : spDo C (spApplied K dF dD S0) vs H Q E := by
  obtain ⟨h, d, dx, p, q, m, S, so, num, rfl, hd, a, hm, hso, hk, hlk, k⟩ := hs
  obtain ⟨s, ps, qs, h1, h2, h3, h4, h5, h6, hS⟩ := a.ex
  obtain ⟨tk, f, d1, d2, d3⟩ := DW.ex
  refine ⟨h, d, dx, s, p, q, fldsH s p q, ps, qs, rfl, h1, rfl, rfl, rfl, h2, h4, h6, by omega, (show 4 < 1000 by decide), fun Q' kk => ?_⟩
  refine ⟨s, d, f, "drop", "wn", tk, [.str so, .int num], _, rfl, hd, d1, rfl, (show 2 ≤ 100 by decide), d2, d3, fun H2 e2 => ?_⟩
  exact ⟨s, S, so, num, rfl, hS.ext e2, hso, hk, hlk, fun r s' H3 e3 hr hS3 => kk r (.ref s') _ H3 hr ((e2.trans e3) _ _ h1) ((e2.trans e3) _ _ h2) ((e2.trans e3) _ _ h4) (after_fin (S' := S.drop so num) h1 h2 h3 h4 h6 (e2.trans e3) hS3 k)⟩
def spSwitchH2 (K : PySem.W.Frag) (C : Addr) (n : Nat) : Sp := fun vs H Q _ => ∃ (h dx p q : Addr) (m : Nat) (S : Stt) (k : Int) (l : LT), vs = [.ref h, .int k] ∧ HsX K C n H h dx p q m S ∧ m ≤ 500 ∧ (k, l) ∈ S.fl.lamps ∧ After K C n H h dx p q m (S.setL k (l.1, !l.2)) .non Q
def spDropH (K : PySem.W.Frag) (C : Addr) (n : Nat) : Sp := fun vs H Q _ => ∃ (h dx p q : Addr) (m : Nat) (S : Stt) (so : Str) (k : Int), vs = [.ref h, .str so, .int k] ∧ HsX K C n H h dx p q m S ∧ m ≤ 500 ∧ (so = "lamp" ∨ so = "post" ∨ so = "pane") ∧ k ∈ S.fl.keys so ∧ (so = "lamp" → ∀ x ∈ S.looks, k ∉ x.2.2.2.lamps.map (·.1)) ∧ After K C n H h dx p q m (S.drop so k) .non Q
theorem After.new {K : PySem.W.Frag} {C : Addr} {n : Nat} {H : Hp} {h dx p q d : Addr} {m : Nat} {S : Stt} {told : V} {Q : VK} {o : HO} (k : After K C n H h dx p q m S told Q) (hd : H d = none) : After K C n (upd H d o) h dx p q m S told Q := fun H' kt a => k H' (fun x o' hx n1 n2 n3 => kt x o' ((Ex.new hd) _ _ hx) n1 n2 n3) a
theorem switch_h2 {K : PySem.W.Frag} {C : Addr} {n : Nat} (vs : List V) (H : Hp) (Q : VK) (E : XK) (hs : spSwitchH2 K C n vs H Q E) : spSwitchM C (spSwitchX K C n) vs H Q E := by
  obtain ⟨h, dx, p, q, m, S, k, l, rfl, a, hm, hl, kk⟩ := hs
  obtain ⟨fs, hh, hf⟩ := a.ins
  exact ⟨h, dx, fs, k, rfl, hh, hf "do" (by decide +kernel), fun d hd => ⟨h, d, dx, p, q, m, S, k, l, rfl, st_of upd_same, a.ext (Ex.new hd), hm, hl, kk.new hd⟩⟩
def spDropM (C : Addr) (spD : Sp) : Sp := fun vs H Q E => ∃ (h dx : Addr) (fs : List (Str × V)) (so : Str) (n : Int), vs = [.ref h, .str so, .int n] ∧ H h = some (.ins C dx fs) ∧ fs.lookup ("do" : Str) = none ∧ ∀ d, H d = none → spD [.ref h, .ref d] (upd H d (.tup [.str "drop", .str so, .int n])) Q E
theorem drop_h {K : PySem.W.Frag} {C : Addr} {n : Nat} (vs : List V) (H : Hp) (Q : VK) (E : XK) (hs : spDropH K C n vs H Q E) : spDropM C (spDropX K C n) vs H Q E := by
  obtain ⟨h, dx, p, q, m, S, so, k, rfl, a, hm, hso, hk, hlk, kk⟩ := hs
  obtain ⟨fs, hh, hf⟩ := a.ins
  exact ⟨h, dx, fs, so, k, rfl, hh, hf "do" (by decide +kernel), fun d hd => ⟨h, d, dx, p, q, m, S, so, k, rfl, st_of upd_same, a.ext (Ex.new hd), hm, hso, hk, hlk, kk.new hd⟩⟩
def spTwin (K : PySem.W.Frag) (C : Addr) (n : Nat) : Sp := fun vs H Q _ => ∃ (h dx p q : Addr) (m : Nat) (S : Stt), vs = [.ref h] ∧ HsX K C n H h dx p q m S ∧ m ≤ 1000 ∧ ∀ (h2 dx2 p2 q2 : Addr) (H' : Hp), H h2 = none → H p2 = none → H q2 = none → Ex H H' → HsX K C n H' h2 dx2 p2 q2 m S → Q (.ref h2) H'
noncomputable def lightF (F : Flr) (z : Pt) : Tri := sum3 (litF ((F.posts.map fun x => x.2).map Fig.post ++ (F.panes.map fun x => x.2).map figN) z (F.lamps.map fun x => x.2))
structure OkF (F : Flr) : Prop where
  l : ∀ x ∈ F.lamps, x.2.1.length = 1 ∧ ∀ c ∈ x.2.1, ChB c
  n : ∀ x ∈ F.panes, x.2.2.2 ∈ S8
def spLightX (K : PySem.W.Frag) (C : Addr) : Sp := fun vs H Q _ => ∃ (h dx p q : Addr) (m : Nat) (S : Stt) (x y : Int), vs = [.ref h, .int x, .int y, .non] ∧ HsX K C 20 H h dx p q m S ∧ OkF S.fl ∧ InFar [x, y] ∧ (Bd 20 x ∧ Bd 20 y) ∧ RetU (tri (lightF S.fl (x, y))) H Q
theorem tab_things {K : PySem.W.Frag} {n : Nat} {H : Hp} {α : Type} {g : α → Fig} {ts : List (Key × V)} {xs : List (Int × α)} (h : TabA (fun v B => FigV K n H v (g B)) ts xs) : ThingsA K n H ts ((xs.map fun x => x.2).map g) := by
  refine ⟨by rw [List.length_map, List.length_map]; exact h.1, fun i k v F h1 h2 => ?_⟩
  rw [List.getElem?_map, List.getElem?_map] at h2
  cases hx : xs[i]? with
  | none =>
    rw [hx] at h2
    cases h2
  | some x =>
    rw [hx] at h2
    cases h2
    exact ⟨⟨_, (h.2 i k v x h1 hx).1⟩, (h.2 i k v x h1 hx).2⟩
theorem tab_lamps {H : Hp} {ts : List (Key × V)} {xs : List (Int × LT)} (h : TabA (LampV H) ts xs) : LampsG H ts (xs.map fun x => x.2) := by
  refine ⟨by rw [List.length_map]; exact h.1, fun i k v z h1 h2 => ?_⟩
  rw [List.getElem?_map] at h2
  cases hx : xs[i]? with
  | none =>
    rw [hx] at h2
    cases h2
  | some x =>
    rw [hx] at h2
    cases h2
    exact (h.2 i k v x h1 hx).2
theorem light_x {K : PySem.W.Frag} {C cP cU cB : Addr} (vs : List V) (H : Hp) (Q : VK) (E : XK) (hs : spLightX K C vs H Q E) : spLightM K C cP cU cB (spFigsG K 20) (spBroughtG K 20) vs H Q E := by
  obtain ⟨h, dx, p, q, m, S, x, y, rfl, a, ok, hF, hb, k⟩ := hs
  obtain ⟨s, ps, qs, h1, h2, h3, h4, h5, h6, hS⟩ := a.ex
  obtain ⟨fl, lk, cm, tl, g1, hFl, g3, g4, g5⟩ := hS.ex
  obtain ⟨b, q2, q3, t1, t2, t3, f1, f2, f3, f4, f5, f6, f7⟩ := hFl.ex
  obtain ⟨w1, w2, w3, w4⟩ := hS.few
  have one : ∀ z ∈ S.fl.lamps.map (fun x => x.2), z.1.length = 1 := fun z hz => by
    obtain ⟨u, hu, rfl⟩ := List.mem_map.mp hz
    exact (ok.l u hu).1
  have hn := nOn_one one
  have hcb : ∀ z ∈ S.fl.lamps.map (fun x => x.2), ∀ c ∈ z.1, ChB c := fun z hz => by
    obtain ⟨u, hu, rfl⟩ := List.mem_map.mp hz
    exact (ok.l u hu).2
  have s2 : ∀ F ∈ (S.fl.posts.map fun x => x.2).map Fig.post, F.sort = "post" := fun F hF => by
    obtain ⟨B, _, rfl⟩ := List.mem_map.mp hF
    rfl
  have s3 : ∀ F ∈ (S.fl.panes.map fun x => x.2).map figN, F.sort = "pane" := fun F hF => by
    obtain ⟨B, _, rfl⟩ := List.mem_map.mp hF
    rfl
  have hok : ∀ F ∈ (S.fl.posts.map fun x => x.2).map Fig.post ++ (S.fl.panes.map fun x => x.2).map figN, F.ok := fun F hF => by
    rcases List.mem_append.mp hF with z | z
    · obtain ⟨B, _, rfl⟩ := List.mem_map.mp z
      exact True.intro
    · obtain ⟨B, hB, rfl⟩ := List.mem_map.mp z
      obtain ⟨u, hu, rfl⟩ := List.mem_map.mp hB
      exact ok.n u hu
  refine ⟨h, dx, s, fl, lk, cm, b, fldsH s p q, bareV b q2 q3, tl, _, t1, S.fl.lamps.map fun x => x.2, x, y, .non, comes ((S.fl.posts.map fun x => x.2).map Fig.post ++ (S.fl.panes.map fun x => x.2).map figN) (x, y), rfl, ⟨h1, rfl, ⟨g1, f1, g3, g5⟩, rfl, f2, tab_lamps f5, f5.nd hS.ul.1, by rw [f5.1]; omega, fun z hz => by rw [one z hz]; decide, fun z hz => by rw [one z hz] <;> exact Nat.le_refl _, by rw [hn]; exact ⟨by decide, fun c hc => by cases hc⟩, hcb⟩, fun z => absurd hF z, fun _ => ⟨?_, ?_⟩⟩
  · intro H0 t e0 ht Q' kk
    have kp := Kp.of e0
    refine ⟨fl, q2, q3, bareV b q2 q3, t2, t3, _, _, rfl, f1.ext e0, rfl, rfl, f3.ext e0, f4.ext e0, tab_things (f6.mono fun _ _ => kp.figv), tab_things (f7.mono fun _ _ => kp.figv), s2, s3, by rw [f6.1]; omega, by rw [f7.1]; omega, fun g H1 hg e1 hl => kk g H1 e1 fun H2 e2 c q' hc hq' Q2 k2 => ?_⟩
    exact ⟨g, q', t, c.1, c.2.1, c.2.2.1, c.2.2.2.1, c.2.2.2.2, (x, y), _, rfl, hl.ext e2, hok, hq', hc, ⟨st_of ((e1.trans e2) _ _ ht), hb⟩, k2⟩
  · rw [hn, litBy_F one]
    exact .inl ⟨rfl, fun z => absurd rfl z, fun _ => k⟩
section
variable {P : Program} {w : World} {K : PySem.W.Frag} {mg : Str → Option Value} {base : Heap} {f C : Addr} {fd : FuncData} {spD : Sp} {n : Nat}
abbrev sDropM : Stmt := (inClass (Hs.top 102) 8)
theorem scDropM : FnScope ["self", "sort", "number"] ["self", "sort", "number"] (defScope sDropM) := ⟨rfl, rfl, rfl, by decide +kernel, rfl, by decide +kernel, by decide +kernel⟩
theorem ok_dropM (F : FunD K "drop" "House.drop" (defArgs sDropM) (defBody sDropM) (defScope sDropM) [] [] f fd) (M_do : MetX P w K mg base 7 C "do" ["self", "deed"] [] spD) : FnOk P w K mg base (L2.CX P w) 8 f fd ["self", "sort", "number"] (spDropM C spD) := by
  have nd := scDropM.nd
  refine F.ok scDropM (fun vs H Q E h => ?_) (fun cdv A outer s H vs Q E hr h => ⟨_, (pss_one (ps_ret (Hs.pe_metX M_do hr (by decide) (passes_call (takes_of rfl rfl rfl rfl) (fun _ _ _ _ h => h)) (pv 0) (pa_cons (pe_tup (pa_cons pe_str (pa_cons (pv 1) (pa_cons (pv 2) pa_nil)))) pa_nil)))), ?_⟩)
  · obtain ⟨h, dx, fs, so, n, rfl, _⟩ := h
    rfl
  · obtain ⟨h, dx, fs, so, n, rfl, hh, hf, k⟩ := h
    exact ⟨_, rfl, h, dx, fs, rfl, hh, hf, _, rfl, _, rfl, sz_of (by simp), fun d hd => k d hd⟩
abbrev sTwin : Stmt := (inClass (Hs.top 102) 33)
theorem scTwin : FnScope ["self", "told"] ["self"] (defScope sTwin) := ⟨rfl, rfl, rfl, by decide +kernel, rfl, by decide +kernel, by decide +kernel⟩
theorem ok_twin (F : FunD K "twin" "House.twin" (defArgs sTwin) (defBody sTwin) (defScope sTwin) [] [] f fd) (hC : HouseC K C) (M_House : MkX P w K mg base 3 "House" C ["self"] (spInit K C)) (g_list : mg "list" = none) : FnOk P w K mg base CX0 5 f fd ["self"] (spTwin K C n) := by
  have nd := scTwin.nd
  refine F.ok scTwin (fun vs H Q E h => ?_) (fun cdv A outer s H vs Q E hr h => ⟨_, PSs.nox (pss_cons (ps_set (i := 1) nd rfl (.inl rfl) (Hs.pe_mkX M_House hr (by decide) (by rfl)))
  (pss_cons (ps_fld (pv 1) (pe_fld (pv 0) (by rfl)) (by rfl))
  (pss_cons (ps_fld (pv 1) (pe_callTy (r := Evl.rListS K) call_list_of (by rfl) g_list (by decide +kernel) (pa_cons (pe_fld (pv 0) (by rfl)) pa_nil)) (by rfl))
  (pss_cons (ps_fld (pv 1) (pe_callTy (r := Evl.rListS K) call_list_of (by rfl) g_list (by decide +kernel) (pa_cons (pe_fld (pv 0) (by rfl)) pa_nil)) (by rfl))
  (pss_one (ps_ret (pv 1))))))), ?_⟩)
  · obtain ⟨h, dx, p, q, m, S, rfl, _⟩ := h
    rfl
  · obtain ⟨h, dx, p, q, m, S, rfl, a, hm, k⟩ := h
    obtain ⟨s, ps, qs, h1, h2, h3, h4, h5, h6, hS⟩ := a.ex
    refine fun h2' dx2 hh hdx ndx => ⟨h2', dx2, rfl, upd_same, fun s0 p2 q2 H3 kp3 hh3 np nq npq hp3 hq3 hF3 => ⟨rfl, ?_⟩⟩
    have old : ∀ {c : Addr} {o : HO}, H c = some o → upd (upd H dx2 (.own h2')) h2' (.ins C dx2 []) c = some o := fun hc => by
      rw [upd_ne (ne_of_none hc hh), upd_ne (ne_of_none hc hdx)]
      exact hc
    have e3 : Ex H H3 := fun c o hc => kp3 c o (old hc) (ne_of_none hc hh)
    have nhh : h ≠ h2' := ne_of_none h1 hh
    have nph : p ≠ h2' := ne_of_none h2 hh
    have nqh : q ≠ h2' := ne_of_none h4 hh
    dsimp only [gName, List.set]
    refine ⟨_, rfl, h, C, dx, _, _, rfl, e3 _ _ h1, hC.c, hC.s, rfl, _, rfl, h2', C, dx2, _, rfl, hh3, hC.c, hC.s, (show 4 < 1000 by decide), ?_⟩
    have e4 := Ex.mut (o := .ins C dx2 (putF "state" (.ref s) [("state", .ref s0), ("past", .ref p2), ("ahead", .ref q2), ("trying", .bl false)])) e3 hh
    refine ⟨_, rfl, h, C, dx, _, _, rfl, e4 _ _ h1, hC.c, hC.p, rfl, p, ps, rfl, .inl (sq_of (e4 _ _ h2)), fun l1 hl1 => ?_⟩
    have x5 := Ex.new (o := .lst ps) hl1
    refine ⟨_, rfl, h2', C, dx2, _, rfl, x5 _ _ upd_same, hC.c, hC.p, (show 4 < 1000 by decide), ?_⟩
    have e6 := Ex.mut (o := .ins C dx2 (putF "past" (.ref l1) (putF "state" (.ref s) [("state", .ref s0), ("past", .ref p2), ("ahead", .ref q2), ("trying", .bl false)]))) (e4.trans x5) hh
    refine ⟨_, rfl, h, C, dx, _, _, rfl, e6 _ _ h1, hC.c, hC.a, rfl, q, qs, rfl, .inl (sq_of (e6 _ _ h4)), fun l2 hl2 => ?_⟩
    have x7 := Ex.new (o := .lst qs) hl2
    refine ⟨_, rfl, h2', C, dx2, _, rfl, x7 _ _ upd_same, hC.c, hC.a, (show 4 < 1000 by decide), ?_⟩
    have e8 := Ex.mut (o := .ins C dx2 (putF "ahead" (.ref l2) (putF "past" (.ref l1) (putF "state" (.ref s) [("state", .ref s0), ("past", .ref p2), ("ahead", .ref q2), ("trying", .bl false)])))) (e6.trans x7) hh
    have n1 : l1 ≠ h2' := fun z => by
      rw [z, upd_same] at hl1
      cases hl1
    have n2 : l2 ≠ h2' := fun z => by
      rw [z, upd_same] at hl2
      cases hl2
    have n3 : l1 ≠ l2 := fun z => by
      rw [← z, upd_ne n1, upd_same] at hl2
      cases hl2
    have z1 : H l1 = none := by
      cases hc : H l1 with
      | none => rfl
      | some o =>
        rw [e4 _ _ hc] at hl1
        cases hl1
    have z2 : H l2 = none := by
      cases hc : H l2 with
      | none => rfl
      | some o =>
        rw [e6 _ _ hc] at hl2
        cases hl2
    refine ⟨_, rfl, k h2' dx2 l1 l2 _ hh z1 z2 e8 ⟨s, ps, qs, upd_same, ?_, h3, ?_, h5, n3, hS.ext e8⟩⟩
    · rw [upd_ne n1, upd_ne n3, upd_ne n1, upd_same]
    · rw [upd_ne n2, upd_same]
end
end Hs
namespace Hs
open PySem PySem.Spec PyProof.Rows L2 Evl
/-! ### the law's model and the state of the house -/
def shiftC (e n : Int) (c : Chc) : Chc := (c.1 + e, c.2.1 + n, c.2.2)
def lmF (l : LM) : LT := (l.1.map (shiftC l.2.1 l.2.2.1), l.2.2.2)
def toF (M : Md) : Flr := ⟨M.lamps.map fun x => (x.1, lmF x.2), M.posts, M.panes⟩
def stOf (M : Md) : Stt := ⟨toF M, [], M.cl, M.cp, M.cn, M.ck⟩
theorem shift0 (c : Chc) : shiftC 0 0 c = c := by
  unfold shiftC
  rw [Int.add_zero, Int.add_zero]
theorem stOf_put {M : Md} {D : Deed} : (stOf M).put D = stOf (M.put D) := by
  cases D with
  | lamp c =>
    show (⟨⟨(M.lamps.map fun x => (x.1, lmF x.2)) ++ [(M.cl, ([c], true))], _, _⟩, _, _, _, _, _⟩ : Stt) = ⟨⟨(M.lamps ++ [(M.cl, ([c], 0, 0, true))]).map (fun x : Int × LM => (x.1, lmF x.2)), _, _⟩, _, _, _, _, _⟩
    rw [List.map_append]
    show _ = (⟨⟨_ ++ [(M.cl, ([shiftC 0 0 c], true))], _, _⟩, _, _, _, _, _⟩ : Stt)
    rw [shift0]
    rfl
  | post B => rfl
  | pane a b z => rfl
def Md.setL (M : Md) (k : Int) (l : LM) : Md := { M with lamps := setN M.lamps k l }
theorem setN_map {α β : Type} {xs : List (Int × α)} {f : α → β} {k : Int} {y : α} : (setN xs k y).map (fun x => (x.1, f x.2)) = setN (xs.map fun x => (x.1, f x.2)) k (f y) := by
  unfold setN
  rw [List.map_map, List.map_map]
  refine List.map_congr_left fun x _ => ?_
  show ((if x.1 = k then (x.1, y) else x).1, f (if x.1 = k then (x.1, y) else x).2) = if x.1 = k then (x.1, f y) else (x.1, f x.2)
  split <;> rfl
theorem stOf_set {M : Md} {k : Int} {l : LM} : stOf (M.setL k (l.1, l.2.1, l.2.2.1, !l.2.2.2)) = (stOf M).setL k ((lmF l).1, !(lmF l).2) := by
  show (⟨⟨(setN M.lamps k (l.1, l.2.1, l.2.2.1, !l.2.2.2)).map (fun x => (x.1, lmF x.2)), _, _⟩, _, _, _, _, _⟩ : Stt) = _
  rw [setN_map]
  rfl
theorem mem_toF {M : Md} {k : Int} {l : LM} (h : (k, l) ∈ M.lamps) : (k, lmF l) ∈ (stOf M).fl.lamps := List.mem_map.mpr ⟨_, h, rfl⟩
def spLaidX (K : PySem.W.Frag) (C : Addr) (n : Nat) : Sp := fun vs H Q _ => ∃ (h m a dx p q : Addr) (k : Nat) (zs : List (Addr × Deed)), vs = [.ref h, .ref m, .ref a] ∧ HsX K C n H h dx p q k Stt.new ∧ MdA K n H m Md.new ∧ H a = some (.lst (refsD zs)) ∧ a ≠ p ∧ a ≠ q ∧ DeedsP H zs ∧ (∀ z ∈ zs, z.2.good n) ∧ CapD (zs.map (·.2)) 12 12 12 ∧ k + zs.length ≤ 400 ∧
  ∀ m' H', Kept H H' h p q → HsX K C n H' h dx p q (k + zs.length) (stOf (mdOf (zs.map (·.2)))) → MdA K n H' m' (mdOf (zs.map (·.2))) → Q (.ref m') H'
def spSwitchedM (K : PySem.W.Frag) (n : Nat) : Sp := fun vs H Q _ => ∃ (m : Addr) (M : Md) (k : Int) (l : LM), vs = [.ref m, .int k] ∧ MdA K n H m M ∧ (k, l) ∈ M.lamps ∧ ∀ a H', H a = none → Ex H H' → MdA K n H' a (M.setL k (l.1, l.2.1, l.2.2.1, !l.2.2.2)) → Q (.ref a) H'
def spAfterSw (K : PySem.W.Frag) (n : Nat) : Sp := fun vs H Q _ => ∃ (m d : Addr) (M : Md) (k : Int) (l : LM), vs = [.ref m, .ref d] ∧ SqT K H d [.str "switch", .int k] ∧ MdA K n H m M ∧ (k, l) ∈ M.lamps ∧ ∀ a H', H a = none → Ex H H' → MdA K n H' a (M.setL k (l.1, l.2.1, l.2.2.1, !l.2.2.2)) → Q (.ref a) H'
theorem CopyM.ext {H H' : Hp} {a : Addr} {D : Str → Addr} {T : Tabs5} (h : CopyM H a D T) (e : Ex H H') : CopyM H' a D T := ⟨e _ _ h.row, fun w hw => e _ _ (h.tab w hw), h.na, h.ne⟩
section
variable {P : Program} {w : World} {K : PySem.W.Frag} {mg : Str → Option Value} {base : Heap} {f C : Addr} {fd : FuncData} {n : Nat}
theorem ok_laidX (F : FnP K "_law_laid" sLaid f fd) (M_do : MetX P w K mg base 7 C "do" ["self", "deed"] [] (spPutX K C n)) (O__law_after_put : Own P w K mg base 3 "_law_after_put" ["_law_m", "_law_deed"] (spAfter K n)) : FnOk P w K mg base CX0 8 f fd ["_law_house", "_law_m", "_law_deeds"] (spLaidX K C n) := by
  have nd := scLaid.nd
  refine F.ok scLaid (fun vs H Q E h => ?_) (fun cdv A outer s H vs Q E hr h => ⟨_, PSs.nox (pss_cons (ps_for PassesOwn.never rfl (pi_list (pv 2)) (pg_name (i := 3) nd rfl (.inl rfl)) (pss_cons (ps_expr (Hs.pe_metX (E := E0) M_do hr (by decide) passL (pv 0) (pa_cons (pv 3) pa_nil)))
  (pss_one (ps_set (i := 1) nd rfl (.inl rfl) (Hs.pe_own O__law_after_put hr (by first | decide | omega) (by rfl) (pa_cons (pv 1) (pa_cons (pv 3) pa_nil)))))))
  (pss_one (ps_ret (pv 1)))), ?_⟩)
  · obtain ⟨h, m, a, dx, p, q, k, zs, rfl, _⟩ := h
    rfl
  · obtain ⟨h, m, a, dx, p, q, k, zs, rfl, hH, hM, ha, nap, naq, hD, hg, hcap, hk, kk⟩ := h
    obtain ⟨fs0, hh0, _⟩ := hH.ins
    have nah : a ≠ h := ne_of ha hh0 (by intro z; cases z)
    refine q_forLn (K := K) (ev_var rfl) (sq_of ha) (fun i σ' H' => ∃ (m' : Addr) (v3 : Option V), σ' = [some (.ref h), some (.ref m'), some (.ref a), v3] ∧ Kept H H' h p q ∧ HsX K C n H' h dx p q (k + i) (stOf (mdOf ((zs.map (·.2)).take i))) ∧ MdA K n H' m' (mdOf ((zs.map (·.2)).take i))) ?_ ?_ ?_ ?_
    · intro H1 e1
      exact ⟨m, none, rfl, Kept.of e1, hH.ext e1, hM.ext e1⟩
    · rintro i σ' H' _ ⟨m', v3, rfl, kt, _⟩
      exact sq_of (kt _ _ ha nah nap naq)
    · rintro i x σ' H' hx ⟨m', v3, rfl, kt, hH', hM'⟩
      unfold refsD at hx
      rw [List.getElem?_map] at hx
      obtain ⟨⟨d, D⟩, hz, rfl⟩ := Option.map_eq_some_iff.mp hx
      have hmem := List.mem_of_getElem? hz
      have hi := (List.getElem?_eq_some_iff.mp hz).1
      have hDi : (zs.map (·.2))[i]? = some D := by rw [List.getElem?_map, hz] <;> rfl
      have hnext : (zs.map (·.2)).take (i + 1) = (zs.map (·.2)).take i ++ [D] := by rw [List.take_add_one, hDi] <;> rfl
      have hc1 := hcap.take (i + 1)
      rw [hnext] at hc1
      obtain ⟨c1, c2, c3⟩ := hc1
      unfold lampsD at c1
      unfold postsD at c2
      unfold panesD at c3
      rw [List.filterMap_append, List.length_append] at c1 c2 c3
      have hgood := hg _ hmem
      have kp := hH.kp kt
      have hd' := kp.tup (hD _ hmem)
      obtain ⟨fs, hh, hf⟩ := hH'.ins
      have l1 : (mdOf ((zs.map (·.2)).take i)).lamps.length = (((zs.map (·.2)).take i).filterMap Deed.l).length := by
        show (numF 1 _).length = _
        rw [numF_len, List.length_map]
        rfl
      have l2 : (mdOf ((zs.map (·.2)).take i)).posts.length = (((zs.map (·.2)).take i).filterMap Deed.p).length := by
        show (numF 1 _).length = _
        rw [numF_len]
        rfl
      have l3 : (mdOf ((zs.map (·.2)).take i)).panes.length = (((zs.map (·.2)).take i).filterMap Deed.n).length := by
        show (numF 1 _).length = _
        rw [numF_len]
        rfl
      have room : (stOf (mdOf ((zs.map (·.2)).take i))).room D := by
        cases D with
        | lamp c =>
          show ((mdOf ((zs.map (·.2)).take i)).lamps.map _).length < 12
          rw [List.length_map, l1]
          simp [Deed.l] at c1 ⊢
          omega
        | post B =>
          show (mdOf ((zs.map (·.2)).take i)).posts.length < 12
          rw [l2]
          simp [Deed.p] at c2 ⊢
          omega
        | pane u v z =>
          show (mdOf ((zs.map (·.2)).take i)).panes.length < 12
          rw [l3]
          simp [Deed.n] at c3 ⊢
          omega
      dsimp only [List.set]
      refine ⟨_, rfl, h, dx, fs, rfl, hh, hf "do" (by decide +kernel), _, rfl, h, d, dx, p, q, k + i, stOf (mdOf ((zs.map (·.2)).take i)), D, rfl, st_of hd', hgood, room, hH', by omega, fun H2 k2 a2 => ?_⟩
      have kt2 := kt.trans k2
      have kp2 := hH'.kp k2
      refine ⟨_, rfl, _, rfl, m', d, mdOf ((zs.map (·.2)).take i), D, rfl, hM'.keep kp2, st_of (kp2.tup hd'), hgood, by rw [l1]; omega, by rw [l2]; omega, by rw [l3]; omega, fun a' H3 na e3 hM3 => ?_⟩
      refine ⟨a', _, rfl, fun x o z n1 n2 n3 => e3 _ _ (kt2 x o z n1 n2 n3), ?_, ?_⟩
      · have a3 := a2.ext e3
        rw [stOf_put, mdOf_snoc] at a3
        rw [hnext]
        exact a3
      · rw [mdOf_snoc] at hM3
        rw [hnext]
        exact hM3
    · rintro σ' H' ⟨m', v3, rfl, kt, hH', hM'⟩
      have elen : (refsD zs).length = (zs.map (·.2)).length := by
        unfold refsD
        rw [List.length_map, List.length_map]
      rw [elen, List.take_length] at hM' hH'
      rw [List.length_map] at hH'
      exact s_ret (ev_var rfl) fun H3 e3 => kk m' H3 (fun x o z n1 n2 n3 => e3 _ _ (kt x o z n1 n2 n3)) (hH'.ext e3) (hM'.ext e3)
abbrev sSwitchedM : Stmt := top 126
theorem scSwitchedM : FnScope ["_law_m", "_law_number", "_law_late", "_law_choices", "_law_east", "_law_north", "_law_burns"] ["_law_m", "_law_number"] (defScope sSwitchedM) := ⟨rfl, rfl, rfl, by decide +kernel, rfl, by decide +kernel, by decide +kernel⟩
theorem ok_switchedM (F : FnP K "_law_switched" sSwitchedM f fd) (O__law_copy : Own P w K mg base 1 "_law_copy" ["_law_m"] spCopyM) : FnOk P w K mg base CX0 2 f fd ["_law_m", "_law_number"] (spSwitchedM K n) := by
  have nd := scSwitchedM.nd
  refine F.ok scSwitchedM (fun vs H Q E h => ?_) (fun cdv A outer s H vs Q E hr h => ⟨_, PSs.nox (pss_cons (ps_set (i := 2) nd rfl (.inl rfl) (Hs.pe_own O__law_copy hr (by first | decide | omega) (by rfl) (pa_cons (pv 0) pa_nil)))
  (pss_cons (ps_asg (pe_dget (Hs.un1 hr) (pe_dget (Hs.un1 hr) (pv 0) pe_str (fun _ _ => rfl)) (pv 1) (fun _ _ => rfl)) (pg_tup rfl (pgs_cons (pg_name (i := 3) nd rfl (.inl rfl)) (pgs_cons (pg_name (i := 4) nd rfl (.inl rfl)) (pgs_cons (pg_name (i := 5) nd rfl (.inl rfl)) (pgs_cons (pg_name (i := 6) nd rfl (.inl rfl)) pgs_nil))))))
  (pss_cons (ps_dput (Hs.un1 hr) (pe_dget (Hs.un1 hr) (pv 2) pe_str (fun _ _ => rfl)) (pv 1) (pe_tup (pa_cons (pv 3) (pa_cons (pv 4) (pa_cons (pv 5) (pa_cons (pe_not (pv 6)) pa_nil))))) (by rfl))
  (pss_one (ps_ret (Hs.pe_frzA (Hs.pe_frzA (Hs.pe_frzA (Hs.pe_frzA (Hs.pe_frzA (Hs.pe_frzA (pv 2)))))))))))), ?_⟩)
  · obtain ⟨m, M, k, l, rfl, _⟩ := h
    rfl
  · obtain ⟨m, M, num, l, rfl, hM, hm, k⟩ := h
    obtain ⟨T, hR, hc, hk, hl, hp, hn⟩ := hM.ex
    have hz := hM.len hc hk hl hp hn
    obtain ⟨f1, f2, f3, f4⟩ := hM.few
    have m1 : ("lamp" : Str) ∈ mW := by decide +kernel
    obtain ⟨_, hv, th, ch, ps, rfl, g1, g2, g3, g4⟩ := hl.here hM.ul hm
    refine ⟨_, rfl, m, T, rfl, hR, hz, fun a D H1 na nD e1 C1 => ?_⟩
    dsimp only [gName, List.set]
    obtain ⟨Dm, fm, fT⟩ := hR.ext e1
    refine q_ev ((ev_fz (key := .inl num) (ev_fz (key := .inr "lamp") (ev_var rfl) ev_c fm (valV_row m1)) (ev_var rfl) (fT _ m1) hv) H1 (Ex.refl _) _ fun H2 e2 => ?_)
    refine ⟨th, _, rfl, ex_t (e1.trans e2) g1, rfl, _, _, rfl, _, _, rfl, _, _, rfl, _, _, rfl, rfl, ?_⟩
    refine ⟨_, rfl, _, rfl, _, rfl, _, rfl, l.2.2.2, rfl, sz_of (by simp), fun th' hth' => ?_⟩
    have x3 := Ex.new (o := .tup [V.ref ch, .int l.2.1, .int l.2.2.1, .bl (!l.2.2.2)]) hth'
    have e03 := (e1.trans e2).trans x3
    have C3 := C1.ext (e2.trans x3)
    have lt := hz _ m1
    have hth3 := upd_same (H := H2) (a := th') (o := .tup [V.ref ch, .int l.2.1, .int l.2.2.1, .bl (!l.2.2.2)])
    generalize upd H2 th' (.tup [V.ref ch, .int l.2.1, .int l.2.2.1, .bl (!l.2.2.2)]) = H3 at x3 e03 C3 hth3 ⊢
    refine ⟨_, rfl, a, _, rfl, C3.get m1, _, rfl, D "lamp", _, rfl, DPut.k (k := .inl num) (C3.tab _ m1) (sz_lt (by omega)), ?_⟩
    have C4 := C3.set m1 (kvs := putK (T "lamp") (.inl num) (.ref th'))
    have e4 := Ex.mut (o := .dK (putK (T "lamp") (.inl num) (.ref th'))) e03 (nD _ m1)
    have hth4 : upd H3 (D "lamp") (.dK (putK (T "lamp") (.inl num) (.ref th'))) th' = some (.tup [V.ref ch, .int l.2.1, .int l.2.2.1, .bl (!l.2.2.2)]) := by
      rw [upd_ne (ne_of hth3 (C3.tab _ m1) (by intro z; cases z))]
      exact hth3
    generalize upd H3 (D "lamp") (.dK (putK (T "lamp") (.inl num) (.ref th'))) = H4 at C4 e4 hth4 ⊢
    show tFrzA (tFrzA (tFrzA (tFrzA (tFrzA (tFrzA (tVar 2)))))) _ _ Q
    refine lock5 C4 e4 na nD (fun H' e' e45 r => k a H' na e' ?_) (fun Q' q => ⟨_, rfl, q⟩)
    have nlp : ("post" : Str) ≠ "lamp" := by decide +kernel
    have nln : ("pane" : Str) ≠ "lamp" := by decide +kernel
    have nlk : ("look" : Str) ≠ "lamp" := by decide +kernel
    have nlc : ("came" : Str) ≠ "lamp" := by decide +kernel
    have kp := Kp.of e'
    refine ⟨⟨_, r, by rw [if_neg nlc]; exact hc, by rw [if_neg nlk]; exact hk, ?_, by rw [if_neg nlp]; exact hp.mono fun _ _ => kp.blkM, by rw [if_neg nln]; exact hn.mono fun _ _ => kp.panM⟩, hM.ul.set, hM.up, hM.un, ⟨by show (setN _ _ _).length ≤ 30; rw [setN_len]; exact f1, f2, f3, f4⟩⟩
    rw [if_pos rfl]
    exact (hl.mono fun _ _ => kp.lampM).set (x0 := l) hm ⟨th', ch, ps, rfl, st_of (e45 _ _ hth4), ex_t e' g2, g3, fun i p c hp hc => ex_t e' (g4 i p c hp hc)⟩
end
end Hs
namespace Hs
open PySem PySem.Spec PyProof.Rows L2 Evl
theorem pe_nev {X : Cx} {e : Expr} : PE X e (fun _ _ _ => False) := ⟨fun _ _ _ _ _ _ h => h.elim⟩
section
variable {K : PySem.W.Frag} {σ : L2.St} {H : Hp} {te : TE}
/-- a comprehension over a new tuple -/
theorem el_lcNT {xs : List V} {tl : TE} {j : Nat} {vs : List Nat} (v : Nat → V) (h : EvU tl σ H xs) (hz : xs.length ≤ 40000) (hw : ∀ x, wipe ((wipe σ vs).set j (some x)) vs = wipe σ vs)
    (he : ∀ (i : Nat) (x : V) H1, Ex H H1 → xs[i]? = some x → Ev te ((wipe σ vs).set j (some x)) H1 (v i)) :
    EvL (tLc (iTup K tl) (gName j) tYes te vs) σ H (given xs.length (fun _ => true) v) := fun H0 e Q q => h H0 e _ fun a H1 ha e1 hx => ⟨a, rfl, ⟨xs, st_of hx⟩, fun Dl hD =>
  lc_tup (xs := xs) (Cw H1 (fun _ => true) v Dl) ⟨hD, Ex.new hD, upd_same⟩ (fun i H' _ p => st_of (p.2.1 a _ hx)) (fun i x H' hi p => ⟨hw x, cw_turn p (by have := (List.getElem?_eq_some_iff.mp hi).1; omega) (fun H1 _ Q q => q H1 (Ex.refl H1)) (fun _ => he i x H1 (e.trans e1) hi)⟩)
    (fun H' p => q Dl H' (fresh_back e1 p.1) (e1.trans p.2.1) p.2.2)⟩
end
def twoT (x : Tri) : Tri := (2 * x.1, 2 * x.2.1, 2 * x.2.2)
def halfT (x : Tri) : Tri := (x.1.fdiv 2, x.2.1.fdiv 2, x.2.2.fdiv 2)
def Deed.tint (f : Tri → Tri) : Deed → Deed
  | .lamp c => .lamp (c.1, c.2.1, f c.2.2)
  | .post B => .post B
  | .pane a b z => .pane a b z
def spTwice (K : PySem.W.Frag) : Sp := fun vs H Q _ => ∃ (d : Addr) (D : Deed), vs = [.ref d] ∧ H d = some (.tup D.vals) ∧ D.near ∧ ∀ p H', Ex H H' → H' p = some (.tup (D.tint twoT).vals) → Q (.ref p) H'
theorem cmul_small {i j : Int} (hi : i.natAbs ≤ 10) (hj : j.natAbs ≤ 2000000) : CMulW i j := mul64 (by omega) (by omega)
section
variable {P : Program} {w : World} {K : PySem.W.Frag} {mg : Str → Option Value} {base : Heap} {f C : Addr} {fd : FuncData} {n : Nat}
abbrev sTwice : Stmt := top 135
theorem scTwice : FnScope ["_law_deed", "_law_part"] ["_law_deed"] (defScope sTwice) := ⟨rfl, rfl, rfl, by decide +kernel, rfl, by decide +kernel, by decide +kernel⟩
theorem ok_twice (F : FnP K "_law_twice" sTwice f fd) (g_tuple : mg "tuple" = none) : FnOk P w K mg base CX0 1 f fd ["_law_deed"] (spTwice K) := by
  have nd := scTwice.nd
  refine F.ok scTwice (fun vs H Q E h => ?_) (fun cdv A outer s H vs Q E hr h => ⟨_, PSs.nox (pss_one (ps_ret (pe_ifExp (pt_cmpR op_eq (pe_ix (r := rIxT K) ix_tup (pv 0) pe_int (fun _ _ => rfl)) pe_str (nomark _)) (pe_op (r := rCatT K) op_catT (pe_slice sl_tup (pv 0) po_none (po_some pe_int)) (pe_callTy call_tuple_of (by rfl) g_tuple (by decide +kernel) (pa_cons (pe_lc (own := [("_law_part", 1)]) rfl nd (pi_tup (pe_slice sl_tup (pv 0) (po_some pe_int) po_none)) (blkOk_by (N := ["_law_deed", "_law_part"]) (sc := defScope (Hs.top 135)) (by decide +kernel)) (fun _ _ _ _ _ => (pg_name (i := 1) nd rfl (Or.inl rfl))) (fun _ _ _ _ _ => pts_nil) (fun _ _ _ _ _ => (pe_op op_mulW pe_int (pv 1)))) pa_nil))) (pv 0)))), ?_⟩)
  · obtain ⟨d, D, rfl, _⟩ := h
    rfl
  · obtain ⟨d, D, rfl, hd, hnr, k⟩ := h
    cases D with
    | lamp c =>
      have at0 : atI (Deed.lamp c).vals 0 = some (.str "lamp") := rfl
      obtain ⟨b1, b2, b3⟩ := hnr.2
      refine (et_test (ev_op (ev_ixt (xs := (Deed.lamp c).vals) rfl (st_of hd) at0) ev_c (rv_eq rfl)) : EvT _ _ H true) H (Ex.refl _) _ fun H1 e1 => ?_
      refine ite_T rfl ?_
      have hd1 := e1 _ _ hd
      refine (eu_sl (K := K) (xs := (Deed.lamp c).vals) (lo := none) (hi := some 3) (ev_var rfl) eo_none (eo_some ev_c) (st_of hd1) (fun z => nomatch (show (3 : Nat) = 6 from z.2))) H1 (Ex.refl _) _ fun p1 H2 np1 e2 h2 => ?_
      have hd2 := e2 _ _ hd1
      refine (eu_tuple (K := K) (xs := tri (twoT c.2.2)) (el_lcNT (K := K) (xs := tri c.2.2) (fun i => [V.int (2 * c.2.2.1), .int (2 * c.2.2.2.1), .int (2 * c.2.2.2.2)].getD i .non) (eu_sl (K := K) (xs := (Deed.lamp c).vals) (lo := some 3) (hi := none) (ev_var rfl) (eo_some ev_c) eo_none (st_of hd2) (fun z => nomatch (show (3 : Nat) = 0 from z.1))) (by show 3 ≤ 40000; decide) (fun _ => rfl) (fun i x H3 e3 hx => ?_))) H2 (Ex.refl _) _ fun p2 H3 np2 e3 h3 => ?_
      · match i, hx with
        | 0, hx => cases hx; exact ev_op ev_c (ev_var rfl) (rv_I (cmul_small (by decide) (by omega)))
        | 1, hx => cases hx; exact ev_op ev_c (ev_var rfl) (rv_I (cmul_small (by decide) (by omega)))
        | 2, hx => cases hx; exact ev_op ev_c (ev_var rfl) (rv_I (cmul_small (by decide) (by omega)))
        | i + 3, hx => cases hx
      · refine ⟨p1, p2, _, _, rfl, rfl, st_of (e3 _ _ h2), st_of h3, by rw [List.ne_nil_iff_length_pos]; show 0 < 3; decide, by show 3 + 3 ≤ sizeLine; decide, (fun z => by cases z), fun _ u hu => ?_⟩
        exact k u _ ((e1.trans (e2.trans e3)).trans (Ex.new hu)) upd_same
    | post B =>
      have at0 : atI (Deed.post B).vals 0 = some (.str "post") := rfl
      refine (et_is (et_test (ev_op (ev_ixt (xs := (Deed.post B).vals) rfl (st_of hd) at0) ev_c (rv_eq rfl))) (by decide +kernel) : EvT _ _ H false) H (Ex.refl _) _ fun H1 e1 => ?_
      exact ite_F rfl ⟨_, rfl, k d H1 e1 (e1 _ _ hd)⟩
    | pane a b z =>
      have at0 : atI (Deed.pane a b z).vals 0 = some (.str "pane") := rfl
      refine (et_is (et_test (ev_op (ev_ixt (xs := (Deed.pane a b z).vals) rfl (st_of hd) at0) ev_c (rv_eq rfl))) (by decide +kernel) : EvT _ _ H false) H (Ex.refl _) _ fun H1 e1 => ?_
      exact ite_F rfl ⟨_, rfl, k d H1 e1 (e1 _ _ hd)⟩
abbrev sAfterTurn : Stmt := top 127
theorem scAfterTurn : FnScope ["_law_m", "_law_deed"] ["_law_m", "_law_deed"] (defScope sAfterTurn) := ⟨rfl, rfl, rfl, by decide +kernel, rfl, by decide +kernel, by decide +kernel⟩
theorem ok_afterTurn (F : FnP K "_law_after_turn" sAfterTurn f fd) (O__law_switched : Own P w K mg base 2 "_law_switched" ["_law_m", "_law_number"] (spSwitchedM K n)) : FnOk P w K mg base CX0 3 f fd ["_law_m", "_law_deed"] (spAfterSw K n) := by
  have nd := scAfterTurn.nd
  refine F.ok scAfterTurn (fun vs H Q E h => ?_) (fun cdv A outer s H vs Q E hr h => ⟨_, PSs.nox (pss_cons (ps_if (pt_cmpR op_eq (pe_ix (r := rIxT K) ix_tup (pv 1) pe_int (fun _ _ => rfl)) pe_str (nomark _)) (pss_one ps_never) pss_nil)
  (pss_one (ps_ret (pe_ifExp (pt_cmpR op_eq (pe_ix (r := rIxT K) ix_tup (pv 1) pe_int (fun _ _ => rfl)) pe_str (nomark _)) (Hs.pe_own O__law_switched hr (by first | decide | omega) (by rfl) (pa_cons (pv 0) (pa_cons (pe_ix (r := rIxT K) ix_tup (pv 1) pe_int (fun _ _ => rfl)) pa_nil))) Hs.pe_nev)))), ?_⟩)
  · obtain ⟨m, d, M, k, l, rfl, _⟩ := h
    rfl
  · obtain ⟨m, d, M, num, l, rfl, hd, hM, hm, k⟩ := h
    have at0 : atI [V.str "switch", .int num] 0 = some (.str "switch") := rfl
    have at1 : atI [V.str "switch", .int num] 1 = some (.int num) := rfl
    refine q_when (b := false) (et_is (et_test (ev_op (ev_ixt (xs := [V.str "switch", .int num]) rfl hd at0) ev_c (rv_eq rfl))) (by decide +kernel)) (fun ht => Bool.noConfusion ht) (fun _ H1 e1 => ?_)
    have hd1 := ex_t e1 hd
    refine (et_test (ev_op (ev_ixt (xs := [V.str "switch", .int num]) rfl hd1 at0) ev_c (rv_eq rfl)) : EvT _ _ H1 true) H1 (Ex.refl _) _ fun H2 e2 => ?_
    refine ite_T rfl ?_
    refine ⟨_, rfl, ?_⟩
    refine (ev_ixt (xs := [V.str "switch", .int num]) rfl (ex_t e2 hd1) at1) H2 (Ex.refl _) _ fun H3 e3 => ?_
    have e03 := (e1.trans e2).trans e3
    exact ⟨m, M, num, l, rfl, hM.ext e03, hm, fun a H4 na e4 h4 => k a H4 (fresh_back e03 na) (e03.trans e4) h4⟩
abbrev sAfterA : Stmt := top 129
theorem scAfterA : FnScope ["_law_m", "_law_deed"] ["_law_m", "_law_deed"] (defScope sAfterA) := ⟨rfl, rfl, rfl, by decide +kernel, rfl, by decide +kernel, by decide +kernel⟩
theorem ok_afterA (F : FnP K "_law_after" sAfterA f fd) (O__law_after_turn : Own P w K mg base 3 "_law_after_turn" ["_law_m", "_law_deed"] (spAfterSw K n)) : FnOk P w K mg base CX0 4 f fd ["_law_m", "_law_deed"] (spAfterSw K n) := by
  have nd := scAfterA.nd
  refine F.ok scAfterA (fun vs H Q E h => ?_) (fun cdv A outer s H vs Q E hr h => ⟨_, PSs.nox (pss_cons (ps_if (pt_cmpR op_in_seq (pe_ix (r := rIxT K) ix_tup (pv 1) pe_int (fun _ _ => rfl)) (pe_tup (pa_cons pe_str (pa_cons pe_str (pa_cons pe_str (pa_cons pe_str pa_nil))))) (by rfl)) (pss_one ps_never) pss_nil)
  (pss_one (ps_ret (pe_ifExp (pt_cmpR op_in_seq (pe_ix (r := rIxT K) ix_tup (pv 1) pe_int (fun _ _ => rfl)) (pe_tup (pa_cons pe_str (pa_cons pe_str (pa_cons pe_str pa_nil)))) (by rfl)) (Hs.pe_own O__law_after_turn hr (by first | decide | omega) (by rfl) (pa_cons (pv 0) (pa_cons (pv 1) pa_nil))) Hs.pe_nev)))), ?_⟩)
  · obtain ⟨m, d, M, k, l, rfl, _⟩ := h
    rfl
  · obtain ⟨m, d, M, num, l, rfl, hd, hM, hm, k⟩ := h
    have at0 : atI [V.str "switch", .int num] 0 = some (.str "switch") := rfl
    refine q_when (b := false) (et_is (et_test (ev_inU (xs := [.str "lamp", .str "unsure", .str "post", .str "pane"]) (ev_ixt (xs := [V.str "switch", .int num]) rfl hd at0) (eu_tup (ea_cons ev_c (ea_cons ev_c (ea_cons ev_c (ea_cons ev_c ea_nil)))) (by simp)) rfl rfl)) (by decide +kernel)) (fun ht => Bool.noConfusion ht) (fun _ H1 e1 => ?_)
    have hd1 := ex_t e1 hd
    refine (et_is (et_test (ev_inU (xs := [.str "move", .str "drop", .str "switch"]) (ev_ixt (xs := [V.str "switch", .int num]) rfl hd1 at0) (eu_tup (ea_cons ev_c (ea_cons ev_c (ea_cons ev_c ea_nil))) (by simp)) rfl rfl)) (by decide +kernel) : EvT _ _ H1 true) H1 (Ex.refl _) _ fun H2 e2 => ?_
    refine ite_T rfl ?_
    have e02 := e1.trans e2
    exact ⟨_, rfl, _, rfl, m, d, M, num, l, rfl, ex_t e02 hd, hM.ext e02, hm, fun a H4 na e4 h4 => k a H4 (fresh_back e02 na) (e02.trans e4) h4⟩
end
end Hs
namespace Hs
open PySem PySem.Spec PyProof.Rows L2 Evl
/-- o.m(), of an own method -/
theorem pe_metX0 {X : Cx} {k j : Nat} {C : Addr} {m : Str} {ps : List Str} {dvs : List V} {sp : Sp} {E : XK} {pos apos : Pos} {o : Expr} {ta : TE} {pl : Sem Bool} (M : MetX X.prog X.w X.K X.mg X.base k C m ps dvs sp) (hr : Room j X.A) (hk : k ≤ j) (hx : Passes (L2.CX X.prog X.w) X E) (he : PE X o ta)
    (ht : eval (.Call (.Attribute o m apos) [] [] pos) X.env = (do
      let ov ← eval o X.env
      standAt apos.atName
      let (f, first) ← holding [ov] (getMethod ov m pl)
      callWith pos f first (backTo pos (starEach [] X.env)) (backToKw pos (keywordEach [] X.env))) := by rfl) :
    PE X (.Call (.Attribute o m apos) [] [] pos) (tMeth C m sp dvs E ta tNil) := by
  obtain ⟨f, fd, ds, F, hm, hd, hb⟩ := M.ex
  exact pe_meth0 he M.c hm F (hr.mono hk) hb hd hx ht
/-- a def that raises nothing, among those that may -/
theorem fn_cx {P : Program} {w : World} {K : PySem.W.Frag} {mg : Str → Option Value} {base : Heap} {CX : CXT} {k : Nat} {f : Addr} {fd : FuncData} {ps : List Str} {sp : Sp} (F : FnOk P w K mg base CX0 k f fd ps sp) : FnOk P w K mg base CX k f fd ps sp :=
  ⟨F.len, fun A outer s H args us vs Q E hr he hb hv hs => codeAny_mono (F.run A outer s H args us vs Q E hr he hb hv hs) fun r s' g => by
    cases r with
    | ok v => cases v <;> exact g
    | error e => exact (show False from g).elim⟩
abbrev rTupK (K : PySem.W.Frag) : List V → Hp → VK → Prop := fun xs H Q => ∃ p ys, xs = [V.ref p] ∧ ((SqL K H p ys ∧ ∀ l : Addr, H l = none → Q (V.ref l) (upd H l (.tup ys))) ∨ (SqT K H p ys ∧ Q (V.ref p) H))
end Hs
namespace Hs
open PySem PySem.Spec PyProof.Rows L2 Evl
/-! ### doubled tints, single lamps: the light -/
def dblC (c : Chc) : Chc := (c.1, c.2.1, twoT c.2.2)
def dblL (l : LM) : LM := (l.1.map dblC, l.2)
def dblM (M : Md) : Md := { M with lamps := M.lamps.map fun x => (x.1, dblL x.2) }
theorem dbl_put {M : Md} {D : Deed} : dblM (M.put D) = (dblM M).put (D.tint twoT) := by
  cases D with
  | lamp c =>
    show (⟨(M.lamps ++ [(M.cl, ([c], 0, 0, true))]).map (fun x : Int × LM => (x.1, dblL x.2)), _, _, _, _, _, _, _⟩ : Md) = ⟨M.lamps.map (fun x : Int × LM => (x.1, dblL x.2)) ++ [(M.cl, ([dblC c], 0, 0, true))], _, _, _, _, _, _, _⟩
    rw [List.map_append]
    rfl
  | post B => rfl
  | pane a b z => rfl
theorem dbl_mdOf (Ds : List Deed) : dblM (mdOf Ds) = mdOf (Ds.map (Deed.tint twoT)) := by
  have key : ∀ n, n ≤ Ds.length → dblM (mdOf (Ds.take n)) = mdOf ((Ds.take n).map (Deed.tint twoT)) := fun n => by
    induction n with
    | zero => exact fun _ => rfl
    | succ n ih =>
      intro h
      have hn : n < Ds.length := by omega
      rw [List.take_add_one, List.getElem?_eq_getElem hn]
      show dblM (mdOf (Ds.take n ++ [Ds[n]])) = mdOf ((Ds.take n ++ [Ds[n]]).map (Deed.tint twoT))
      rw [← mdOf_snoc, dbl_put, ih (by omega), List.map_append]
      exact mdOf_snoc
  have z := key Ds.length (Nat.le_refl _)
  rwa [List.take_length] at z
theorem dbl_setL {M : Md} {k : Int} {l : LM} : dblM (M.setL k l) = (dblM M).setL k (dblL l) := by
  show (⟨(setN M.lamps k l).map (fun x : Int × LM => (x.1, dblL x.2)), _, _, _, _, _, _, _⟩ : Md) = ⟨setN (M.lamps.map fun x : Int × LM => (x.1, dblL x.2)) k (dblL l), _, _, _, _, _, _, _⟩
  rw [setN_map]
  rfl
noncomputable def litV (Fs : List Fig) (z : Pt) (l : LT) : Tri := if l.2 = true then comes Fs z (l.1.getD 0 (0, 0, (0, 0, 0))) else (0, 0, 0)
def figsF (F : Flr) : List Fig := (F.posts.map fun x => x.2).map Fig.post ++ (F.panes.map fun x => x.2).map figN
theorem lightF_eq {F : Flr} {z : Pt} : lightF F z = sum3 (F.lamps.map fun x => litV (figsF F) z x.2) := by
  show sum3 ((F.lamps.map fun x => x.2).map (litV (figsF F) z)) = _
  rw [List.map_map]
  rfl
theorem pick2 {c : Nat} {z : Str} {i : Int} : pick c z (2 * i) = 2 * pick c z i := by
  unfold pick
  split
  · rfl
  · rfl
theorem sift2 {x : Tri} {z : Str} : siftT (twoT x) z = twoT (siftT x z) := by
  unfold siftT twoT
  rw [pick2, pick2, pick2]
theorem pick0 {c : Nat} {z : Str} : pick c z 0 = 0 := by
  unfold pick
  split <;> rfl
theorem sift0 {z : Str} : siftT (0, 0, 0) z = (0, 0, 0) := by
  unfold siftT
  rw [pick0, pick0, pick0]
theorem lit_dbl {Fs : List Fig} {z : Pt} {l : LM} : litV Fs z (lmF (dblL l)) = twoT (litV Fs z (lmF l)) := by
  obtain ⟨cs, e, n, b⟩ := l
  unfold litV
  show (if b = true then comes Fs z (((cs.map dblC).map (shiftC e n)).getD 0 (0, 0, (0, 0, 0))) else (0, 0, 0)) = twoT (if b = true then comes Fs z ((cs.map (shiftC e n)).getD 0 (0, 0, (0, 0, 0))) else (0, 0, 0))
  split
  · cases cs with
    | nil =>
      show siftT (0, 0, 0) _ = twoT (siftT (0, 0, 0) _)
      rw [sift0, sift0]
      rfl
    | cons c r => exact sift2
  · rfl
theorem sum3_cons {t : Tri} {ts : List Tri} : sum3 (t :: ts) = (t.1 + (sum3 ts).1, t.2.1 + (sum3 ts).2.1, t.2.2 + (sum3 ts).2.2) := rfl
theorem sum3_two {α : Type} (g : α → Tri) : ∀ xs : List α, sum3 (xs.map fun x => twoT (g x)) = twoT (sum3 (xs.map g))
  | [] => rfl
  | x :: r => by
    rw [List.map_cons, List.map_cons, sum3_cons, sum3_cons, sum3_two g r]
    unfold twoT
    simp only [Prod.mk.injEq]
    omega
theorem light_dbl {M : Md} {z : Pt} : lightF (toF (dblM M)) z = twoT (lightF (toF M) z) := by
  rw [lightF_eq, lightF_eq]
  show sum3 (((M.lamps.map fun x : Int × LM => (x.1, dblL x.2)).map fun x : Int × LM => (x.1, lmF x.2)).map fun x => litV (figsF (toF M)) z x.2) = twoT (sum3 ((M.lamps.map fun x : Int × LM => (x.1, lmF x.2)).map fun x => litV (figsF (toF M)) z x.2))
  rw [List.map_map, List.map_map, List.map_map, ← sum3_two]
  exact congrArg sum3 (List.map_congr_left fun x _ => lit_dbl)
/-- whether the lamp of number k is still as it was, j numbers further; the number num always -/
def kpB (ks : List Int) (num : Int) (j : Nat) (k : Int) : Bool := decide (k = num) || !decide (k ∈ ks.take j)
theorem kpB_0 {ks : List Int} {num k : Int} : kpB ks num 0 k = true := by
  unfold kpB
  simp
theorem kpB_end {ks : List Int} {num k : Int} (h : k ∈ ks) : kpB ks num ks.length k = decide (k = num) := by
  unfold kpB
  rw [List.take_length, decide_eq_true h]
  simp
theorem kpB_succ {ks : List Int} {num k k0 : Int} {j : Nat} (h : ks[j]? = some k0) : kpB ks num (j + 1) k = (kpB ks num j k && (decide (k = num) || !decide (k = k0))) := by
  unfold kpB
  rw [List.take_add_one, h]
  show (decide (k = num) || !decide (k ∈ ks.take j ++ [k0])) = _
  by_cases h1 : k = num
  · simp [h1]
  · by_cases h2 : k = k0
    · subst h2
      simp [h1]
    · simp [h1, h2]
def oneX (xs : List (Int × LT)) (num : Int) (j : Nat) : List (Int × LT) := xs.filter fun x => kpB (xs.map (·.1)) num j x.1
def twoX (xs : List (Int × LT)) (num : Int) (j : Nat) : List (Int × LT) := xs.map fun x => (x.1, (x.2.1, x.2.2 && kpB (xs.map (·.1)) num j x.1))
theorem oneX_0 {xs : List (Int × LT)} {num : Int} : oneX xs num 0 = xs := by
  unfold oneX
  exact List.filter_eq_self.mpr fun x _ => kpB_0
theorem twoX_0 {xs : List (Int × LT)} {num : Int} : twoX xs num 0 = xs := by
  unfold twoX
  conv => rhs; rw [← List.map_id xs]
  refine List.map_congr_left fun x _ => ?_
  rw [kpB_0, Bool.and_true]
  rfl
theorem oneX_same {xs : List (Int × LT)} {num : Int} {j : Nat} (h : (xs.map (·.1))[j]? = some num) : oneX xs num (j + 1) = oneX xs num j := by
  unfold oneX
  refine List.filter_congr fun x _ => ?_
  rw [kpB_succ h]
  by_cases e : x.1 = num <;> simp [e]
theorem twoX_same {xs : List (Int × LT)} {num : Int} {j : Nat} (h : (xs.map (·.1))[j]? = some num) : twoX xs num (j + 1) = twoX xs num j := by
  unfold twoX
  refine List.map_congr_left fun x _ => ?_
  rw [kpB_succ h]
  by_cases e : x.1 = num <;> simp [e]
theorem oneX_succ {xs : List (Int × LT)} {num k : Int} {j : Nat} (h : (xs.map (·.1))[j]? = some k) (hk : k ≠ num) : oneX xs num (j + 1) = dropN (oneX xs num j) k := by
  unfold oneX dropN
  rw [List.filter_filter]
  refine List.filter_congr fun x _ => ?_
  rw [kpB_succ h]
  by_cases e : x.1 = num
  · have : x.1 ≠ k := fun z => hk (z.symm.trans e)
    simp [e, Ne.symm hk]
  · by_cases e2 : x.1 = k
    · have e3 : ¬ k = num := hk
      simp [e2, e3]
    · simp [e, e2]
theorem key_at {α : Type} {xs : List (Int × α)} {k : Int} {l : α} (hn : (xs.map (·.1)).Nodup) (h : (k, l) ∈ xs) {x : Int × α} (hx : x ∈ xs) (e : x.1 = k) : x = (k, l) := by
  obtain ⟨i, hi, e1⟩ := List.mem_iff_getElem.mp h
  obtain ⟨j, hj, e2⟩ := List.mem_iff_getElem.mp hx
  have z : (xs.map (·.1))[i]'(by rw [List.length_map]; exact hi) = (xs.map (·.1))[j]'(by rw [List.length_map]; exact hj) := by
    rw [List.getElem_map, List.getElem_map, e1, e2, e]
  have := (List.getElem_inj hn).mp z
  subst this
  rw [← e1, ← e2]
theorem twoX_off {xs : List (Int × LT)} {num k : Int} {l : LT} {j : Nat} (hn : (xs.map (·.1)).Nodup) (h : (xs.map (·.1))[j]? = some k) (hl : (k, l) ∈ xs) (hb : l.2 = false) : twoX xs num (j + 1) = twoX xs num j := by
  unfold twoX
  refine List.map_congr_left fun x hx => ?_
  rw [kpB_succ h]
  by_cases e : x.1 = k
  · rw [key_at hn hl hx e, hb]
    rfl
  · simp [e]
theorem twoX_set {xs : List (Int × LT)} {num k : Int} {l : LT} {j : Nat} (hn : (xs.map (·.1)).Nodup) (h : (xs.map (·.1))[j]? = some k) (hk : k ≠ num) (hl : (k, l) ∈ xs) : twoX xs num (j + 1) = setN (twoX xs num j) k (l.1, false) := by
  unfold twoX setN
  rw [List.map_map]
  refine List.map_congr_left fun x hx => ?_
  show _ = if x.1 = k then (x.1, (l.1, false)) else (x.1, (x.2.1, x.2.2 && kpB (xs.map (·.1)) num j x.1))
  rw [kpB_succ h]
  by_cases e : x.1 = k
  · rw [if_pos e, key_at hn hl hx e]
    simp [hk]
  · rw [if_neg e]
    simp [e]
theorem kpB_new {ks : List Int} {num k : Int} {j : Nat} (hn : ks.Nodup) (h : ks[j]? = some k) : kpB ks num j k = true := by
  unfold kpB
  have : k ∉ ks.take j := fun z => by
    obtain ⟨i, hi, e⟩ := List.mem_iff_getElem.mp z
    rw [List.length_take] at hi
    rw [List.getElem_take] at e
    obtain ⟨hj, e2⟩ := List.getElem?_eq_some_iff.mp h
    have := (List.getElem_inj hn).mp (e.trans e2.symm)
    omega
  rw [decide_eq_false this]
  simp
theorem mem_oneX {xs : List (Int × LT)} {num k : Int} {l : LT} {j : Nat} (hn : (xs.map (·.1)).Nodup) (h : (xs.map (·.1))[j]? = some k) (hl : (k, l) ∈ xs) : k ∈ (oneX xs num j).map (·.1) := List.mem_map.mpr ⟨(k, l), List.mem_filter.mpr ⟨hl, kpB_new hn h⟩, rfl⟩
theorem mem_twoX {xs : List (Int × LT)} {num k : Int} {l : LT} {j : Nat} (hn : (xs.map (·.1)).Nodup) (h : (xs.map (·.1))[j]? = some k) (hl : (k, l) ∈ xs) : (k, l) ∈ twoX xs num j := List.mem_map.mpr ⟨(k, l), hl, by rw [kpB_new hn h, Bool.and_true]⟩
theorem filt1 {xs : List (Int × LT)} {k : Int} {l : LT} (hn : (xs.map (·.1)).Nodup) (h : (k, l) ∈ xs) : xs.filter (fun x => decide (x.1 = k)) = [(k, l)] := by
  induction xs with
  | nil => cases h
  | cons x r ih =>
    rw [List.map_cons, List.nodup_cons] at hn
    rcases List.mem_cons.mp h with e | e
    · subst e
      rw [List.filter_cons_of_pos (by simp)]
      congr 1
      refine List.filter_eq_nil_iff.mpr fun y hy z => hn.1 ?_
      rw [← of_decide_eq_true z]
      exact List.mem_map.mpr ⟨y, hy, rfl⟩
    · have ne : x.1 ≠ k := fun z => hn.1 (by rw [z]; exact List.mem_map.mpr ⟨_, e, rfl⟩)
      rw [List.filter_cons_of_neg (by simp [ne])]
      exact ih hn.2 e
theorem sum3_if {α : Type} (p : α → Bool) (g : α → Tri) : ∀ xs : List α, sum3 (xs.map fun x => if p x = true then g x else (0, 0, 0)) = sum3 ((xs.filter p).map g)
  | [] => rfl
  | x :: r => by
    rw [List.map_cons, sum3_cons, sum3_if p g r]
    by_cases h : p x = true
    · rw [if_pos h, List.filter_cons_of_pos h]
      rfl
    · rw [if_neg h, List.filter_cons_of_neg h]
      simp
theorem sum3_1 {t : Tri} : sum3 [t] = t := by
  show (t.1 + 0, t.2.1 + 0, t.2.2 + 0) = t
  rw [Int.add_zero, Int.add_zero, Int.add_zero]
theorem light_one {F : Flr} {z : Pt} {k : Int} {l : LT} (hn : (F.lamps.map (·.1)).Nodup) (h : (k, l) ∈ F.lamps) : lightF { F with lamps := oneX F.lamps k F.lamps.length } z = litV (figsF F) z l := by
  have e : oneX F.lamps k F.lamps.length = [(k, l)] := by
    rw [← filt1 hn h]
    unfold oneX
    refine List.filter_congr fun x hx => ?_
    have q := kpB_end (num := k) (ks := F.lamps.map (·.1)) (List.mem_map.mpr ⟨x, hx, rfl⟩)
    rw [List.length_map] at q
    exact q
  rw [lightF_eq, e]
  exact sum3_1
theorem light_two {F : Flr} {z : Pt} {k : Int} {l : LT} (hn : (F.lamps.map (·.1)).Nodup) (h : (k, l) ∈ F.lamps) : lightF { F with lamps := twoX F.lamps k F.lamps.length } z = litV (figsF F) z l := by
  rw [lightF_eq]
  show sum3 ((twoX F.lamps k F.lamps.length).map fun x => litV (figsF F) z x.2) = _
  unfold twoX
  rw [List.map_map]
  have e : (F.lamps.map ((fun x : Int × LT => litV (figsF F) z x.2) ∘ fun x : Int × LT => (x.1, (x.2.1, x.2.2 && kpB (F.lamps.map (·.1)) k F.lamps.length x.1)))) = F.lamps.map fun x => if decide (x.1 = k) = true then litV (figsF F) z x.2 else (0, 0, 0) := by
    refine List.map_congr_left fun x hx => ?_
    have q := kpB_end (num := k) (ks := F.lamps.map (·.1)) (List.mem_map.mpr ⟨x, hx, rfl⟩)
    rw [List.length_map] at q
    show litV (figsF F) z (x.2.1, x.2.2 && kpB (F.lamps.map (·.1)) k F.lamps.length x.1) = _
    rw [q]
    by_cases hk : x.1 = k
    · rw [decide_eq_true hk, Bool.and_true, if_pos rfl]
    · rw [decide_eq_false hk, Bool.and_false, if_neg (by decide)]
      rfl
  rw [e, sum3_if, filt1 hn h]
  exact sum3_1
end Hs
namespace Hs
open PySem PySem.Spec PyProof.Rows L2 Evl
theorem bag_kept {H H' : Hp} {b l h p q : Addr} {ns : List Int} {n : Nat} (B : BagAt H b l ns n) (k : Kept H H' h p q) (nb : b ≠ h ∧ b ≠ p ∧ b ≠ q) (nl : l ≠ h ∧ l ≠ p ∧ l ≠ q) : BagAt H' b l ns n := by
  obtain ⟨⟨i, z, s, c, q1, q2, q3, q4, q5⟩, q6, q7⟩ := B
  exact ⟨⟨i, z, s, c, k _ _ q1 nb.1 nb.2.1 nb.2.2, q2, q3, q4, q5⟩, k _ _ q6 nl.1 nl.2.1 nl.2.2, q7⟩
end Hs
namespace Hs
open PySem PySem.Spec PyProof.Rows L2 Evl
/-! ### models of single choices; deeds one by one; two houses side by side -/
def TrB (B : Nat) (t : Tri) : Prop := t.1.natAbs ≤ B ∧ t.2.1.natAbs ≤ B ∧ t.2.2.natAbs ≤ B
structure Sgl (B : Nat) (M : Md) : Prop where
  l : ∀ x ∈ M.lamps, ∃ (c : Chc) (b : Bool), x.2 = (([c], 0, 0, b) : LM) ∧ Near (c.1, c.2.1) ∧ TrB B c.2.2
  p : ∀ x ∈ M.posts, NearB x.2
  n : ∀ x ∈ M.panes, (Near x.2.1 ∧ Near x.2.2.1) ∧ x.2.2.2 ∈ S8
theorem sgl_of {Ds : List Deed} (h : ∀ D ∈ Ds, D.near) : Sgl 1000000 (mdOf Ds) := by
  refine ⟨fun x hx => ?_, fun x hx => ?_, fun x hx => ?_⟩
  · have hm : x.2 ∈ (mdOf Ds).lamps.map (fun x => x.2) := List.mem_map.mpr ⟨x, hx, rfl⟩
    rw [show (mdOf Ds).lamps.map (fun x => x.2) = (lampsD Ds).map oneL from numF_snd _ _] at hm
    obtain ⟨c, hc, e⟩ := List.mem_map.mp hm
    obtain ⟨n1, n2, n3, n4⟩ := near_lamp h c hc
    exact ⟨c, true, e.symm, n1, by omega, by omega, by omega⟩
  · have hm : x.2 ∈ blksM (mdOf Ds) := List.mem_map.mpr ⟨x, hx, rfl⟩
    rw [blks_of] at hm
    exact (near_post h _ hm).2
  · have hm : x.2 ∈ pansM (mdOf Ds) := List.mem_map.mpr ⟨x, hx, rfl⟩
    rw [pans_of] at hm
    exact near_pane h _ hm
theorem Sgl.set {B : Nat} {M : Md} {k : Int} {l : LM} (h : Sgl B M) (hm : (k, l) ∈ M.lamps)  : Sgl B (M.setL k (l.1, l.2.1, l.2.2.1, !l.2.2.2)) := by
  refine ⟨fun x hx => ?_, h.p, h.n⟩
  have hx2 : x ∈ setN M.lamps k (l.1, l.2.1, l.2.2.1, !l.2.2.2) := hx
  obtain ⟨y, hy, e⟩ := List.mem_map.mp hx2
  by_cases hk : y.1 = k
  · rw [if_pos hk] at e
    obtain ⟨c, b, e2, hn, ht⟩ := h.l _ hm
    have e3 : l = ([c], 0, 0, b) := e2
    exact ⟨c, !b, by rw [← e, e3], hn, ht⟩
  · rw [if_neg hk] at e
    rw [← e]
    exact h.l y hy
theorem Sgl.dbl {B : Nat} {M : Md} (h : Sgl B M) : Sgl (2 * B) (dblM M) := by
  refine ⟨fun x hx => ?_, h.p, h.n⟩
  have hx2 : x ∈ M.lamps.map (fun x => (x.1, dblL x.2)) := hx
  obtain ⟨y, hy, e⟩ := List.mem_map.mp hx2
  obtain ⟨c, b, e2, hn, t1, t2, t3⟩ := h.l y hy
  refine ⟨dblC c, b, ?_, hn, (by show (2 * c.2.2.1).natAbs ≤ 2 * B; omega), (by show (2 * c.2.2.2.1).natAbs ≤ 2 * B; omega), (by show (2 * c.2.2.2.2).natAbs ≤ 2 * B; omega)⟩
  rw [← e]
  show dblL y.2 = _
  rw [e2]
  rfl
theorem Sgl.okL {B : Nat} {M : Md} (h : Sgl B M) : OkL M := fun x hx => by
  obtain ⟨c, b, e, _⟩ := h.l x hx
  rw [e]
  exact ⟨Nat.le_refl 1, show 1 ≤ 1000 by decide⟩
theorem Sgl.cnts {B : Nat} {M : Md} (h : Sgl B M) : cnts (nOn (lsM M)) = [] := nOn_one fun z hz => by
  obtain ⟨x, hx, rfl⟩ := List.mem_map.mp hz
  obtain ⟨c, b, e, _⟩ := h.l x hx
  rw [e]
  rfl
theorem Sgl.nearM {B : Nat} {M : Md} (h : Sgl B M) : NearM M (zerosR M) := by
  have ez : zerosR M = [] := by
    unfold zerosR
    rw [h.cnts]
    rfl
  rw [ez]
  refine ⟨fun y hy => ?_, h.p, fun x hx => (h.n x hx).1⟩
  unfold burnL at hy
  obtain ⟨i, hi, rfl⟩ := List.mem_map.mp hy
  have hlt := List.mem_range.mp (List.mem_filter.mp hi).1
  obtain ⟨c, b, e, hn, _⟩ := h.l _ (List.getElem_mem hlt)
  have hg : M.lamps.getD i noL = M.lamps[i] := by rw [List.getD_eq_getElem?_getD, List.getElem?_eq_getElem hlt] <;> rfl
  have hp : pval (nOn (lsM M)) [] i = 0 := by
    unfold pval
    rw [List.getD_eq_getElem?_getD, nOn_at (lsM_at (List.getElem?_eq_getElem hlt)), e]
    rfl
  have hc : chcAt M [] i = c := by
    unfold chcAt
    rw [hg, hp, e]
    rfl
  unfold burnAt
  rw [hg, hc, e]
  show Near (c.1 + 0, c.2.1 + 0)
  rw [Int.add_zero, Int.add_zero]
  exact hn
theorem Sgl.okF {B : Nat} {M : Md} (h : Sgl B M) : OkF (toF M) := by
  refine ⟨fun x hx => ?_, fun x hx => (h.n x hx).2⟩
  have hx2 : x ∈ M.lamps.map (fun x => (x.1, lmF x.2)) := hx
  obtain ⟨y, hy, e⟩ := List.mem_map.mp hx2
  obtain ⟨c, b, e2, hn, _⟩ := h.l y hy
  have e3 : x.2.1 = [c] := by
    rw [← e]
    show (lmF y.2).1 = [c]
    rw [e2]
    show [shiftC 0 0 c] = [c]
    rw [shift0]
  rw [e3]
  refine ⟨rfl, fun c' hc => ?_⟩
  rw [List.mem_singleton.mp hc]
  exact ⟨bd20 hn.1, bd20 hn.2⟩
theorem OkF.one {F : Flr} {k : Int} {j : Nat} (h : OkF F) : OkF { F with lamps := oneX F.lamps k j } := ⟨fun x hx => h.l x (List.mem_filter.mp hx).1, h.n⟩
theorem OkF.two {F : Flr} {k : Int} {j : Nat} (h : OkF F) : OkF { F with lamps := twoX F.lamps k j } := ⟨fun x hx => by
  obtain ⟨y, hy, e⟩ := List.mem_map.mp hx
  rw [← e]
  exact h.l y hy, h.n⟩
theorem q_asgV {te : TE} {i : Nat} {tz : TS} {D : Ends} {σ : L2.St} {H : Hp} (h : te σ H fun v H1 => tz D (σ.set i (some v)) H1) : tSeq (tAsg te (gName i)) tz D σ H := h
theorem pick_le {c : Nat} {z : Str} {i : Int} {B : Nat} (h : i.natAbs ≤ B) : (pick c z i).natAbs ≤ B := by
  unfold pick
  split
  · exact h
  · exact Nat.zero_le _
theorem lit_tb {B : Nat} {M : Md} (h : Sgl B M) {Fs : List Fig} {z : Pt} {x : Int × LM} (hx : x ∈ M.lamps) : TrB B (litV Fs z (lmF x.2)) := by
  obtain ⟨c, b, e, _, t1, t2, t3⟩ := h.l x hx
  rw [e]
  unfold litV
  show TrB B (if b = true then comes Fs z (shiftC 0 0 c) else (0, 0, 0))
  rw [shift0]
  split
  · exact ⟨pick_le t1, pick_le t2, pick_le t3⟩
  · exact ⟨Nat.zero_le _, Nat.zero_le _, Nat.zero_le _⟩
theorem sum3_tb {B : Nat} : ∀ ts : List Tri, (∀ t ∈ ts, TrB B t) → TrB (ts.length * B) (sum3 ts)
  | [], _ => ⟨Nat.zero_le _, Nat.zero_le _, Nat.zero_le _⟩
  | t :: r, h => by
    obtain ⟨a1, a2, a3⟩ := sum3_tb r fun x hx => h x (List.mem_cons_of_mem _ hx)
    obtain ⟨b1, b2, b3⟩ := h t (List.mem_cons_self ..)
    rw [sum3_cons, List.length_cons, Nat.succ_mul]
    generalize r.length * B = n at a1 a2 a3 ⊢
    refine ⟨?_, ?_, ?_⟩
    · show (t.1 + (sum3 r).1).natAbs ≤ n + B
      omega
    · show (t.2.1 + (sum3 r).2.1).natAbs ≤ n + B
      omega
    · show (t.2.2 + (sum3 r).2.2).natAbs ≤ n + B
      omega
theorem light_sum {M : Md} {z : Pt} : lightF (toF M) z = sum3 (M.lamps.map fun x => litV (figsF (toF M)) z (lmF x.2)) := by
  rw [lightF_eq]
  show sum3 ((M.lamps.map fun x => (x.1, lmF x.2)).map fun x => litV (figsF (toF M)) z x.2) = _
  rw [List.map_map]
  rfl
section
variable {K : PySem.W.Frag} {C : Addr} {σ : L2.St} {H : Hp}
/-- a comprehension that makes of each deed another -/
theorem lc_deeds {tl te : TE} {d : Addr} {zs : List (Addr × Deed)} {f : Deed → Deed} {j : Nat} {vs : List Nat} {Q : VK} (h : Ev tl σ H (.ref d)) (hd : H d = some (.lst (refsD zs))) (hl : zs.length ≤ 1000) (hw : ∀ x, wipe ((wipe σ vs).set j (some x)) vs = wipe σ vs)
    (hs : ∀ z ∈ zs, ∀ H' Q', Ex H H' → (∀ p H2, Ex H' H2 → H2 p = some (.tup (f z.2).vals) → Q' (.ref p) H2) → te ((wipe σ vs).set j (some (.ref z.1))) H' Q')
    (k : ∀ Dl us H', H Dl = none → Ex H H' → H' Dl = some (.lst (refsD us)) → DeedsP H' us → us.map (·.2) = zs.map (fun z => f z.2) → Q (.ref Dl) H') : tLc (iList K tl) (gName j) tYes te vs σ H Q := by
  refine h H (Ex.refl _) _ fun H1 e1 => ⟨d, rfl, ⟨_, sq_of (e1 _ _ hd)⟩, fun Dl hDl => ?_⟩
  refine lc_it (walk_list (K := K) (a := d) (xs := refsD zs)) (fun i H' => Ex H1 H' ∧ ∃ us : List (Addr × Deed), H' Dl = some (.lst (refsD us)) ∧ DeedsP H' us ∧ us.map (·.2) = (zs.map fun z => f z.2).take i) ⟨Ex.new hDl, [], upd_same, (fun z hz => by cases hz), rfl⟩ (fun i H' _ q => sq_of (q.1 _ _ (e1 _ _ hd))) (fun i x H' H'' hi q y => ?_) (fun H' q => ?_)
  · obtain ⟨rfl, hx⟩ := y
    obtain ⟨e, us, hD', hu, hm⟩ := q
    unfold refsD at hx
    rw [List.getElem?_map] at hx
    obtain ⟨z, hz, rfl⟩ := Option.map_eq_some_iff.mp hx
    have hzi := (List.getElem?_eq_some_iff.mp hz).1
    refine ⟨hw _, ?_⟩
    simp only [tYes, if_true]
    refine hs z (List.mem_of_getElem? hz) _ _ (e1.trans e) fun p H2 e2 hp => ?_
    have hD2 := e2 _ _ hD'
    have ul : us.length ≤ 1000 := by
      have := congrArg List.length hm
      rw [List.length_map, List.length_take, List.length_map] at this
      omega
    refine ⟨_, hD2, sz_lt (by unfold refsD; rw [List.length_map]; omega), Ex.mut (e.trans e2) hDl, us ++ [(p, f z.2)], ?_, fun y hy => ?_, ?_⟩
    · rw [upd_same]
      unfold refsD
      rw [List.map_append]
      rfl
    · rcases List.mem_append.mp hy with g | g
      · have t := e2 _ _ (hu y g)
        rw [upd_ne (ne_of t hD2 (by intro z; cases z))]
        exact t
      · rw [List.mem_singleton.mp g, upd_ne (ne_of hp hD2 (by intro z; cases z))]
        exact hp
    · have hf : (zs.map fun z => f z.2)[i]? = some (f z.2) := by rw [List.getElem?_map, hz] <;> rfl
      rw [List.map_append, hm, List.take_add_one, hf]
      rfl
  · obtain ⟨e, us, hD', hu, hm⟩ := q
    have elen : (refsD zs).length = (zs.map fun z => f z.2).length := by
      unfold refsD
      rw [List.length_map, List.length_map]
    rw [elen, List.take_length] at hm
    exact k Dl us H' (fresh_back e1 hDl) (e1.trans e) hD' hu hm
theorem house_new {n : Nat} {h dx s0 p q : Addr} {H3 : Hp} (hh : H h = none) (hdx : H dx = none) (kp3 : ∀ b o, upd (upd H dx (.own h)) h (.ins C dx []) b = some o → b ≠ h → H3 b = some o) (hh3 : H3 h = some (.ins C dx [("state", .ref s0), ("past", .ref p), ("ahead", .ref q), ("trying", .bl false)])) (np : upd (upd H dx (.own h)) h (.ins C dx []) p = none) (nq : upd (upd H dx (.own h)) h (.ins C dx []) q = none) (npq : p ≠ q) (hp3 : H3 p = some (.lst [])) (hq3 : H3 q = some (.lst [])) (hF3 : FirstA K H3 s0) :
    Ex H H3 ∧ HsX K C n H3 h dx p q 0 Stt.new ∧ H h = none ∧ H p = none ∧ H q = none := by
  have old : ∀ {c : Addr} {o : HO}, H c = some o → upd (upd H dx (.own h)) h (.ins C dx []) c = some o := fun hc => by
    rw [upd_ne (ne_of_none hc hh), upd_ne (ne_of_none hc hdx)]
    exact hc
  refine ⟨fun c o hc => kp3 c o (old hc) (ne_of_none hc hh), HsX.made hh3 hp3 hq3 npq hF3, hh, ?_, ?_⟩
  · cases hz : H p with
    | none => rfl
    | some o =>
      rw [old hz] at np
      cases np
  · cases hz : H q with
    | none => rfl
    | some o =>
      rw [old hz] at nq
      cases nq
/-- three addresses that are none of three others -/
def Apart (a b c h p q : Addr) : Prop := (a ≠ h ∧ a ≠ p ∧ a ≠ q) ∧ (b ≠ h ∧ b ≠ p ∧ b ≠ q) ∧ (c ≠ h ∧ c ≠ p ∧ c ≠ q)
theorem HsX.kept {n : Nat} {H' : Hp} {h dx p q h2 dx2 p2 q2 : Addr} {m m2 : Nat} {S S2 : Stt} (a : HsX K C n H h2 dx2 p2 q2 m2 S2) (b : HsX K C n H h dx p q m S) (k : Kept H H' h p q) (z : Apart h2 p2 q2 h p q) : HsX K C n H' h2 dx2 p2 q2 m2 S2 :=
  a.keep (b.kp k) (fun _ y => k _ _ y z.1.1 z.1.2.1 z.1.2.2) (fun _ y => k _ _ y z.2.1.1 z.2.1.2.1 z.2.1.2.2) (fun _ y => k _ _ y z.2.2.1 z.2.2.2.1 z.2.2.2.2) (Nat.le_refl _)
theorem HsX.but {n i : Nat} {H' : Hp} {h dx p q b l : Addr} {m : Nat} {S : Stt} {ns : List Int} (a : HsX K C n H h dx p q m S) (B : BagAt H b l ns i) (nh : b ≠ h ∧ b ≠ p ∧ b ≠ q) (e : But H H' b) : HsX K C n H' h dx p q m S :=
  a.keep (bag_kp B e) (fun _ z => e _ _ z (Ne.symm nh.1)) (fun _ z => e _ _ z (Ne.symm nh.2.1)) (fun _ z => e _ _ z (Ne.symm nh.2.2)) (Nat.le_refl _)
theorem HsX.more {n : Nat} {h dx p q : Addr} {m m' : Nat} {S : Stt} (a : HsX K C n H h dx p q m S) (hm : m ≤ m') : HsX K C n H h dx p q m' S := a.keep (Kp.of (Ex.refl _)) (fun _ z => z) (fun _ z => z) (fun _ z => z) hm
end
theorem near_half {D : Deed} (h : D.near) : (D.tint halfT).near := by
  cases D with
  | lamp c =>
    obtain ⟨h1, h2, h3, h4⟩ := h
    refine ⟨h1, ?_⟩
    show triB (halfT c.2.2)
    unfold halfT triB
    rw [Int.fdiv_eq_ediv_of_nonneg _ (by decide), Int.fdiv_eq_ediv_of_nonneg _ (by decide), Int.fdiv_eq_ediv_of_nonneg _ (by decide)]
    dsimp only
    omega
  | post B => exact h
  | pane a b z => exact h
theorem near_twice {D : Deed} (h : D.near) : ((D.tint halfT).tint twoT).near := by
  cases D with
  | lamp c =>
    obtain ⟨h1, h2, h3, h4⟩ := h
    refine ⟨h1, ?_⟩
    show triB (twoT (halfT c.2.2))
    unfold twoT halfT triB
    rw [Int.fdiv_eq_ediv_of_nonneg _ (by decide), Int.fdiv_eq_ediv_of_nonneg _ (by decide), Int.fdiv_eq_ediv_of_nonneg _ (by decide)]
    dsimp only
    omega
  | post B => exact h
  | pane a b z => exact h
theorem cap_tint {f : Tri → Tri} {L P N : Nat} {Ds : List Deed} (h : CapD Ds L P N) : CapD (Ds.map (Deed.tint f)) L P N := by
  have e1 : ∀ Ds : List Deed, ((Ds.map (Deed.tint f)).filterMap Deed.l).length = (Ds.filterMap Deed.l).length := fun Ds => by
    induction Ds with
    | nil => rfl
    | cons D r ih =>
      rw [List.map_cons]
      cases D with
      | lamp c => rw [List.filterMap_cons_some (f := Deed.l) (a := Deed.tint f (.lamp c)) (b := (c.1, c.2.1, f c.2.2)) rfl, List.filterMap_cons_some (f := Deed.l) (a := .lamp c) (b := c) rfl, List.length_cons, List.length_cons, ih]
      | post B => rw [List.filterMap_cons_none (f := Deed.l) (a := Deed.tint f (.post B)) rfl, List.filterMap_cons_none (f := Deed.l) (a := .post B) rfl, ih]
      | pane a b z => rw [List.filterMap_cons_none (f := Deed.l) (a := Deed.tint f (.pane a b z)) rfl, List.filterMap_cons_none (f := Deed.l) (a := .pane a b z) rfl, ih]
  have e2 : postsD (Ds.map (Deed.tint f)) = postsD Ds := by
    unfold postsD
    rw [List.filterMap_map]
    exact congrArg (fun g => List.filterMap g Ds) (funext fun D => by cases D <;> rfl)
  have e3 : panesD (Ds.map (Deed.tint f)) = panesD Ds := by
    unfold panesD
    rw [List.filterMap_map]
    exact congrArg (fun g => List.filterMap g Ds) (funext fun D => by cases D <;> rfl)
  exact ⟨by unfold lampsD; rw [e1]; exact h.1, by rw [e2]; exact h.2.1, by rw [e3]; exact h.2.2⟩
end Hs
namespace Hs
open PySem PySem.Spec PyProof.Rows L2 Evl
/-! ### the law's loops: switched lamps, twins -/
section
variable {K : PySem.W.Frag} {C : Addr}
/-- what stands once both houses are laid; ks: the numbers of the lamps -/
structure W14 (K : PySem.W.Frag) (C : Addr) (H : Hp) (b l g h dx p q h2 dx2 p2 q2 m : Addr) (ns : List Int) (i : Nat) (gw gx gy : Int) (k : Nat) (M : Md) (ks : List Int) : Prop where
  bag : BagAt H b l ns i
  g : H g = some (.tup [.int gw, .int gx, .int gy])
  grid : Grid gw gx gy
  a : HsX K C 20 H h dx p q k (stOf M)
  e : HsX K C 20 H h2 dx2 p2 q2 k (stOf (dblM M))
  ap : Apart h2 p2 q2 h p q
  ap2 : Apart h p q h2 p2 q2
  nb : b ≠ h ∧ b ≠ p ∧ b ≠ q
  nl : l ≠ h ∧ l ≠ p ∧ l ≠ q
  nb2 : b ≠ h2 ∧ b ≠ p2 ∧ b ≠ q2
  nl2 : l ≠ h2 ∧ l ≠ p2 ∧ l ≠ q2
  md : MdA K 20 H m M
  s : Sgl 1000000 M
  ks : M.lamps.map (·.1) = ks
theorem W14.ext {H H' : Hp} {b l g h dx p q h2 dx2 p2 q2 m : Addr} {ns : List Int} {i j : Nat} {gw gx gy : Int} {k : Nat} {M : Md} {ks : List Int} (a : W14 K C H b l g h dx p q h2 dx2 p2 q2 m ns i gw gx gy k M ks) (x : Ex H H') (hij : i ≤ j) : W14 K C H' b l g h dx p q h2 dx2 p2 q2 m ns j gw gx gy k M ks :=
  ⟨a.bag.ext x hij, x _ _ a.g, a.grid, a.a.ext x, a.e.ext x, a.ap, a.ap2, a.nb, a.nl, a.nb2, a.nl2, a.md.ext x, a.s, a.ks⟩
theorem W14.but {H H' : Hp} {b l g h dx p q h2 dx2 p2 q2 m : Addr} {ns : List Int} {i j : Nat} {gw gx gy : Int} {k : Nat} {M : Md} {ks : List Int} (a : W14 K C H b l g h dx p q h2 dx2 p2 q2 m ns i gw gx gy k M ks) (B : BagAt H' b l ns j) (x : But H H' b) : W14 K C H' b l g h dx p q h2 dx2 p2 q2 m ns j gw gx gy k M ks :=
  ⟨B, (bag_kp a.bag x).tup a.g, a.grid, a.a.but a.bag a.nb x, a.e.but a.bag a.nb2 x, a.ap, a.ap2, a.nb, a.nl, a.nb2, a.nl2, a.md.keep (bag_kp a.bag x), a.s, a.ks⟩
theorem some_not {H : Hp} {c h p q : Addr} {o : HO} (hc : H c = some o) (f : H h = none ∧ H p = none ∧ H q = none) : c ≠ h ∧ c ≠ p ∧ c ≠ q := ⟨ne_of_none hc f.1, ne_of_none hc f.2.1, ne_of_none hc f.2.2⟩
theorem el_lamps {σ : L2.St} {H : Hp} {td : TE} {m : Addr} {M : Md} (hM : MdA K 20 H m M) (h : Ev td σ H (.ref m)) : EvL (tCB rSortDI (tCons (tDGet td (tC (.str "lamp"))) tNil)) σ H ((M.lamps.map (·.1)).map V.int) := by
  obtain ⟨T, ⟨D, fm, fT⟩, hc, hk, hl, hp, hn⟩ := hM.ex
  have m1 : ("lamp" : Str) ∈ mW := by decide +kernel
  have := hM.few.1
  exact el_sort (xs := M.lamps) (ev_fz (key := .inr "lamp") h ev_c fm (valV_row m1)) (fT _ m1) hl.keys hM.ul.1 (by omega)
theorem HsX.some {H : Hp} {n : Nat} {h dx p q : Addr} {m : Nat} {S : Stt} (a : HsX K C n H h dx p q m S) : (∃ o, H h = some o) ∧ (∃ o, H p = some o) ∧ ∃ o, H q = some o := by
  obtain ⟨fs, h1, _⟩ := a.ins
  obtain ⟨⟨_, h2⟩, _, h3⟩ := a.lsts
  exact ⟨⟨_, h1⟩, ⟨_, h2⟩, _, h3⟩
theorem HsX.new {H : Hp} {n : Nat} {h dx p q pp : Addr} {m : Nat} {S : Stt} (a : HsX K C n H h dx p q m S) (np : H pp = none) : pp ≠ h ∧ pp ≠ p ∧ pp ≠ q := by
  obtain ⟨⟨_, h1⟩, ⟨_, h2⟩, _, h3⟩ := a.some
  exact ⟨Ne.symm (ne_of_none h1 np), Ne.symm (ne_of_none h2 np), Ne.symm (ne_of_none h3 np)⟩
theorem mem_dbl {M : Md} {k : Int} {l : LM} (h : (k, l) ∈ M.lamps) : (k, dblL l) ∈ (dblM M).lamps := List.mem_map.mpr ⟨(k, l), h, rfl⟩
abbrev tKeys : TE := tCB rSortDI (tCons (tDGet (tVar 6) (tC (.str "lamp"))) tNil)
abbrev st14 (a b g d h h2 m : Addr) (v7 v8 v9 v10 v11 v12 v13 v14 : Option V) : L2.St := [some (.ref a), some (.ref b), some (.ref g), some (.ref d), some (.ref h), some (.ref h2), some (.ref m), v7, v8, v9, v10, v11, v12, v13, v14, none, none]
theorem loop1 {tz : TS} {D : Ends} {a b g d h dx p q h2 dx2 p2 q2 m l : Addr} {H : Hp} {ns : List Int} {N : Nat} {gw gx gy : Int} {k : Nat} {M : Md} {ks : List Int} (W : W14 K C H b l g h dx p q h2 dx2 p2 q2 m ns N gw gx gy k M ks) (hN : N ≤ 10000) (hk : k + ks.length ≤ 400)
    (kk : ∀ m' M' v7 H', W14 K C H' b l g h dx p q h2 dx2 p2 q2 m' ns (N + ks.length) gw gx gy (k + ks.length) M' ks → tz D (st14 a b g d h h2 m' v7 none none none none none none none) H') :
    tSeq (tFor (iList K tKeys) (gName 7) (tIfS (tTest (tOp rEq (tCall spPull [] E0 (tCons (tVar 1) (tCons (tC (V.int 5)) tNil))) (tC (V.int 0)))) (tSeq (tDrop (tMeth C "switch" (spSwitchH2 K C 20) [] E0 (tVar 4) (tCons (tVar 7) tNil))) (tSeq (tDrop (tMeth C "switch" (spSwitchH2 K C 20) [] E0 (tVar 5) (tCons (tVar 7) tNil))) (tAsg (tCall (spAfterSw K 20) [] E0 (tCons (tVar 6) (tCons (tTup (tCons (tC (V.str "switch")) (tCons (tVar 7) tNil))) tNil))) (gName 6)))) tNext)) tz D (st14 a b g d h h2 m none none none none none none none none) H := by
  have eks := W.ks
  subst eks
  refine q_forNLn (K := K) (el_lamps W.md (ev_var rfl)) (fun pp i σ' H' => H' pp = some (.lst ((M.lamps.map (·.1)).map V.int)) ∧ (pp ≠ b ∧ (pp ≠ h ∧ pp ≠ p ∧ pp ≠ q) ∧ (pp ≠ h2 ∧ pp ≠ p2 ∧ pp ≠ q2)) ∧ ∃ (m' : Addr) (M' : Md) (v7 : Option V), σ' = st14 a b g d h h2 m' v7 none none none none none none none ∧ W14 K C H' b l g h dx p q h2 dx2 p2 q2 m' ns (N + i) gw gx gy (k + i) M' (M.lamps.map (·.1))) ?_ ?_ ?_ ?_
  · intro pp H1 np e1 hpp
    exact ⟨hpp, ⟨bag_ne W.bag np, W.a.new np, W.e.new np⟩, m, M, none, rfl, W.ext e1 (Nat.le_refl _)⟩
  · rintro pp i σ' H' _ ⟨hp, _⟩
    exact sq_of hp
  · rintro pp i x σ' H' hx ⟨hpp, ap, m', M', v7, rfl, W'⟩
    rw [List.getElem?_map] at hx
    obtain ⟨k0, hk0, rfl⟩ := Option.map_eq_some_iff.mp hx
    have hi := (List.getElem?_eq_some_iff.mp hk0).1
    obtain ⟨l0, hl0⟩ : ∃ l0, (k0, l0) ∈ M'.lamps := by
      have hm : k0 ∈ M'.lamps.map (·.1) := by
        rw [W'.ks]
        exact List.mem_of_getElem? hk0
      obtain ⟨y, hy, e⟩ := List.mem_map.mp hm
      exact ⟨y.2, by rw [← e]; exact hy⟩
    dsimp only [st14, List.set]
    refine ⟨_, rfl, b, l, ns, N + i, 5, rfl, W'.bag, by omega, by decide, by decide, fun v H2 v0 v5 B2 b2 => ?_⟩
    have W2 := W'.but B2 b2
    have hpp2 := b2 _ _ hpp ap.1
    refine ⟨rfl, _, rfl, ?_⟩
    by_cases hv : v = 0
    · refine ite_T (by rw [hv]; rfl) ?_
      obtain ⟨fs, hh, hf⟩ := W2.a.ins
      refine ⟨_, rfl, h, dx, fs, rfl, hh, hf "switch" (by decide +kernel), _, rfl, ⟨h, dx, p, q, k + i, stOf M', k0, lmF l0, rfl, W2.a, by omega, mem_toF hl0, fun H3 k3 a3 => ?_⟩⟩
      rw [← stOf_set] at a3
      have g3 := W2.e.kept W2.a k3 W2.ap
      have kp3 := W2.a.kp k3
      obtain ⟨fs2, hh2, hf2⟩ := g3.ins
      refine ⟨_, rfl, h2, dx2, fs2, rfl, hh2, hf2 "switch" (by decide +kernel), _, rfl, ⟨h2, dx2, p2, q2, k + i, stOf (dblM M'), k0, lmF (dblL l0), rfl, g3, by omega, mem_toF (mem_dbl hl0), fun H4 k4 g4 => ?_⟩⟩
      rw [← stOf_set] at g4
      have g4' : HsX K C 20 H4 h2 dx2 p2 q2 (k + i + 1) (stOf (dblM (M'.setL k0 (l0.1, l0.2.1, l0.2.2.1, !l0.2.2.2)))) := by
        rw [dbl_setL]
        exact g4
      have a4 := a3.kept g3 k4 W2.ap2
      have kp4 := g3.kp k4
      have B4 := bag_kept (bag_kept B2 k3 W2.nb W2.nl) k4 W2.nb2 W2.nl2
      have hpp4 := k4 _ _ (k3 _ _ hpp2 ap.2.1.1 ap.2.1.2.1 ap.2.1.2.2) ap.2.2.1 ap.2.2.2.1 ap.2.2.2.2
      refine ⟨_, rfl, _, rfl, sz_of (by simp), fun t ht => ⟨m', t, M', k0, l0, rfl, st_of upd_same, (((W2.md.keep kp3).keep kp4).ext (Ex.new ht)), hl0, fun m2 H5 na5 e5 M5 => ?_⟩⟩
      have x5 := (Ex.new (o := .tup [V.str "switch", .int k0]) ht).trans e5
      exact ⟨x5 _ _ hpp4, ap, m2, M'.setL k0 (l0.1, l0.2.1, l0.2.2.1, !l0.2.2.2), _, rfl, ⟨B4.ext x5 (by omega), x5 _ _ (kp4.tup (kp3.tup W2.g)), W2.grid, a4.ext x5, g4'.ext x5, W2.ap, W2.ap2, W2.nb, W2.nl, W2.nb2, W2.nl2, M5, W2.s.set hl0, by rw [← W2.ks]; exact setN_keys⟩⟩
    · exact ite_F (by simp [hv]) ⟨hpp2, ap, m', M', _, rfl, ⟨B2, W2.g, W2.grid, W2.a.more (by omega), W2.e.more (by omega), W2.ap, W2.ap2, W2.nb, W2.nl, W2.nb2, W2.nl2, W2.md, W2.s, W2.ks⟩⟩
  · rintro pp σ' H' ⟨_, _, m', M', v7, rfl, W'⟩
    rw [List.length_map] at W'
    exact kk m' M' v7 H' W'
def oneS (M : Md) (num : Int) (j : Nat) : Stt := { stOf M with fl := { toF M with lamps := oneX (toF M).lamps num j } }
def twoS (M : Md) (num : Int) (j : Nat) : Stt := { stOf M with fl := { toF M with lamps := twoX (toF M).lamps num j } }
theorem keys_toF {M : Md} : (toF M).lamps.map (·.1) = M.lamps.map (·.1) := by
  show (M.lamps.map fun x => (x.1, lmF x.2)).map (·.1) = _
  rw [List.map_map]
  rfl
theorem loop3 {tz : TS} {D : Ends} {a b g d h h2 m o dxo po qo w dxw pw qw : Addr} {H0 H : Hp} {k : Nat} {M : Md} {num : Int} {v8 v11 v12 v13 v14 : Option V} (hM : MdA K 20 H0 m M) (e0 : Ex H0 H)
    (fo : H0 o = none ∧ H0 po = none ∧ H0 qo = none) (fw : H0 w = none ∧ H0 pw = none ∧ H0 qw = none) (ap : Apart o po qo w pw qw) (ap2 : Apart w pw qw o po qo) (A : HsX K C 20 H o dxo po qo k (stOf M)) (B : HsX K C 20 H w dxw pw qw k (stOf M)) (hk : k + M.lamps.length ≤ 450)
    (kk : ∀ v11 H', Ex H0 H' → HsX K C 20 H' o dxo po qo (k + M.lamps.length) (oneS M num M.lamps.length) → HsX K C 20 H' w dxw pw qw (k + M.lamps.length) (twoS M num M.lamps.length) → tz D (st14 a b g d h h2 m (some (.int num)) v8 (some (.ref o)) (some (.ref w)) v11 v12 v13 v14) H') :
    tSeq (tFor (iList K tKeys) (gName 11) (tIfS (tTest (tOp rNe (tVar 11) (tVar 7))) (tSeq (tDrop (tMeth C "drop" (spDropH K C 20) [] E0 (tVar 9) (tCons (tC (V.str "lamp")) (tCons (tVar 11) tNil)))) (tIfS (tB (tOp (rIxT K) (tDGet (tDGet (tVar 6) (tC (V.str "lamp"))) (tVar 11)) (tC (V.int 3)))) (tDrop (tMeth C "switch" (spSwitchH2 K C 20) [] E0 (tVar 10) (tCons (tVar 11) tNil))) tNext)) tNext)) tz D (st14 a b g d h h2 m (some (.int num)) v8 (some (.ref o)) (some (.ref w)) v11 v12 v13 v14) H := by
  have hnd : ((toF M).lamps.map (·.1)).Nodup := by
    rw [keys_toF]
    exact hM.ul.1.imp fun h => by omega
  refine q_forNLn (K := K) (el_lamps (hM.ext e0) (ev_var rfl)) (fun pp i σ' H' => H' pp = some (.lst ((M.lamps.map (·.1)).map V.int)) ∧ ((pp ≠ o ∧ pp ≠ po ∧ pp ≠ qo) ∧ (pp ≠ w ∧ pp ≠ pw ∧ pp ≠ qw)) ∧ Ex H0 H' ∧ ∃ v11 : Option V, σ' = st14 a b g d h h2 m (some (.int num)) v8 (some (.ref o)) (some (.ref w)) v11 v12 v13 v14 ∧ HsX K C 20 H' o dxo po qo (k + i) (oneS M num i) ∧ HsX K C 20 H' w dxw pw qw (k + i) (twoS M num i)) ?_ ?_ ?_ ?_
  · intro pp H1 np e1 hpp
    refine ⟨hpp, ⟨A.new np, B.new np⟩, e0.trans e1, v11, rfl, ?_, ?_⟩
    · unfold oneS
      rw [oneX_0]
      exact A.ext e1
    · unfold twoS
      rw [twoX_0]
      exact B.ext e1
  · rintro pp i σ' H' _ ⟨hp, _⟩
    exact sq_of hp
  · rintro pp i x σ' H' hx ⟨hpp, app, e1, v11, rfl, A1, B1⟩
    rw [List.getElem?_map] at hx
    obtain ⟨k0, hk0, rfl⟩ := Option.map_eq_some_iff.mp hx
    have hi : i < M.lamps.length := by
      have := (List.getElem?_eq_some_iff.mp hk0).1
      rwa [List.length_map] at this
    have hkT : ((toF M).lamps.map (·.1))[i]? = some k0 := by
      rw [keys_toF]
      exact hk0
    obtain ⟨l0, hl0⟩ : ∃ l0, (k0, l0) ∈ M.lamps := by
      obtain ⟨y, hy, e⟩ := List.mem_map.mp (List.mem_of_getElem? hk0)
      exact ⟨y.2, by rw [← e]; exact hy⟩
    have hl1 : (k0, lmF l0) ∈ (toF M).lamps := mem_toF hl0
    dsimp only [st14, List.set]
    refine s_when (b := !decide (V.int k0 = V.int num)) (et_test (ev_op (ev_var rfl) (ev_var rfl) (rv_ne rfl))) (fun ht H2 e2 => ?_) (fun ht H2 e2 => ?_)
    · have hne : k0 ≠ num := fun z => by
        rw [z] at ht
        simp at ht
      have A2 := A1.ext e2
      have B2 := B1.ext e2
      obtain ⟨fs, hh, hf⟩ := A2.ins
      refine ⟨_, rfl, o, dxo, fs, rfl, hh, hf "drop" (by decide +kernel), _, rfl, ⟨o, dxo, po, qo, k + i, oneS M num i, "lamp", k0, rfl, A2, by omega, .inl rfl, mem_oneX hnd hkT hl1, (fun _ x hx => by cases hx), fun H3 k3 A3 => ?_⟩⟩
      have hA3 : HsX K C 20 H3 o dxo po qo (k + i + 1) (oneS M num (i + 1)) := by
        have z := A3
        rw [drop_lamp] at z
        unfold oneS
        rw [oneX_succ hkT hne]
        exact z
      have B3 := B2.kept A2 k3 ap2
      have e03 : Ex H0 H3 := fun c u hc => k3 _ _ (e2 _ _ (e1 _ _ hc)) (ne_of_none hc fo.1) (ne_of_none hc fo.2.1) (ne_of_none hc fo.2.2)
      have hpp3 := k3 _ _ (e2 _ _ hpp) app.1.1 app.1.2.1 app.1.2.2
      obtain ⟨T, ⟨Dm, fm, fT⟩, hc, hkk, hl, hp, hn⟩ := (hM.ext e03).ex
      have m1 : ("lamp" : Str) ∈ mW := by decide +kernel
      obtain ⟨_, hv, th, ch, ps, rfl, g1, g2, g3, g4⟩ := hl.here hM.ul hl0
      refine s_when (et_B (ev_op (ev_fz (key := .inl k0) (ev_fz (key := .inr "lamp") (ev_var rfl) ev_c fm (valV_row m1)) (ev_var rfl) (fT _ m1) hv) ev_c (rv_ixT (xs := [.ref ch, .int l0.2.1, .int l0.2.2.1, .bl l0.2.2.2]) (v := .bl l0.2.2.2) g1 rfl))) (fun ht3 H4 e4 => ?_) (fun ht3 H4 e4 => ?_)
      · have B4 := B3.ext e4
        obtain ⟨fs2, hh2, hf2⟩ := B4.ins
        refine ⟨_, rfl, w, dxw, fs2, rfl, hh2, hf2 "switch" (by decide +kernel), _, rfl, ⟨w, dxw, pw, qw, k + i, twoS M num i, k0, lmF l0, rfl, B4, by omega, mem_twoX hnd hkT hl1, fun H5 k5 B5 => ?_⟩⟩
        have hB5 : HsX K C 20 H5 w dxw pw qw (k + i + 1) (twoS M num (i + 1)) := by
          have z := B5
          unfold twoS
          rw [twoX_set hnd hkT hne hl1]
          have eb : (!(lmF l0).2) = false := by
            show (!l0.2.2.2) = false
            rw [ht3]
            rfl
          rw [eb] at z
          exact z
        have A4 := hA3.ext e4
        exact ⟨k5 _ _ (e4 _ _ hpp3) app.2.1 app.2.2.1 app.2.2.2, app, fun c u hc => k5 _ _ (e4 _ _ (e03 _ _ hc)) (ne_of_none hc fw.1) (ne_of_none hc fw.2.1) (ne_of_none hc fw.2.2), _, rfl, A4.kept B4 k5 ap, hB5⟩
      · have hB : HsX K C 20 H4 w dxw pw qw (k + i + 1) (twoS M num (i + 1)) := by
          unfold twoS
          rw [twoX_off hnd hkT hl1 ht3]
          exact (B3.ext e4).more (by omega)
        exact ⟨e4 _ _ hpp3, app, e03.trans e4, _, rfl, hA3.ext e4, hB⟩
    · have he : k0 = num := by
        by_cases z : k0 = num
        · exact z
        · simp [z] at ht
      rw [he] at hkT
      refine ⟨e2 _ _ hpp, app, e1.trans e2, _, rfl, ?_, ?_⟩
      · unfold oneS
        rw [oneX_same hkT]
        exact (A1.ext e2).more (by omega)
      · unfold twoS
        rw [twoX_same hkT]
        exact (B1.ext e2).more (by omega)
  · rintro pp σ' H' ⟨_, _, e1, v11, rfl, A1, B1⟩
    rw [List.length_map, List.length_map] at A1 B1
    exact kk v11 H' e1 A1 B1
/-- the pair of twins of the number num: alone by dropping, alone by switching; b and al are none of their parts -/
def TwA (K : PySem.W.Frag) (C : Addr) (H : Hp) (b al t : Addr) (M : Md) (num : Int) : Prop := ∃ o dxo po qo w dxw pw qw : Addr, H t = some (.tup [.ref o, .ref w]) ∧ HsX K C 20 H o dxo po qo 900 (oneS M num M.lamps.length) ∧ HsX K C 20 H w dxw pw qw 900 (twoS M num M.lamps.length) ∧ ∀ x, x = b ∨ x = al → (x ≠ o ∧ x ≠ po ∧ x ≠ qo) ∧ (x ≠ w ∧ x ≠ pw ∧ x ≠ qw)
theorem TwA.keep {H H' : Hp} {b al t x : Addr} {M : Md} {num : Int} (h : TwA K C H b al t M num) (kp : Kp H H') (e : But H H' x) (hx : x = b ∨ x = al) : TwA K C H' b al t M num := by
  obtain ⟨o, dxo, po, qo, w, dxw, pw, qw, h1, h2, h3, h4⟩ := h
  obtain ⟨y1, y2⟩ := h4 x hx
  exact ⟨o, dxo, po, qo, w, dxw, pw, qw, kp.tup h1, h2.keep kp (fun _ z => e _ _ z (Ne.symm y1.1)) (fun _ z => e _ _ z (Ne.symm y1.2.1)) (fun _ z => e _ _ z (Ne.symm y1.2.2)) (Nat.le_refl _), h3.keep kp (fun _ z => e _ _ z (Ne.symm y2.1)) (fun _ z => e _ _ z (Ne.symm y2.2.1)) (fun _ z => e _ _ z (Ne.symm y2.2.2)) (Nat.le_refl _), h4⟩
theorem TwA.ext {H H' : Hp} {b al t : Addr} {M : Md} {num : Int} (h : TwA K C H b al t M num) (e : Ex H H') : TwA K C H' b al t M num := h.keep (x := b) (Kp.of e) (But.of e) (.inl rfl)
def TwsA (K : PySem.W.Frag) (C : Addr) (H : Hp) (b al : Addr) (ts : List Addr) (M : Md) : Prop := ∀ (i : Nat) (t : Addr) (num : Int), ts[i]? = some t → (M.lamps.map (·.1))[i]? = some num → TwA K C H b al t M num
theorem TwsA.ext {H H' : Hp} {b al : Addr} {ts : List Addr} {M : Md} (h : TwsA K C H b al ts M) (e : Ex H H') : TwsA K C H' b al ts M := fun i t num h1 h2 => (h i t num h1 h2).ext e
def AlA (al b l h p q h2 p2 q2 : Addr) : Prop := (al ≠ b ∧ al ≠ l) ∧ (al ≠ h ∧ al ≠ p ∧ al ≠ q) ∧ (al ≠ h2 ∧ al ≠ p2 ∧ al ≠ q2)
theorem W14.al {H H' : Hp} {b l g h dx p q h2 dx2 p2 q2 m al : Addr} {ns : List Int} {i : Nat} {gw gx gy : Int} {k : Nat} {M : Md} {ks : List Int} (a : W14 K C H b l g h dx p q h2 dx2 p2 q2 m ns i gw gx gy k M ks) (z : AlA al b l h p q h2 p2 q2) (kp : Kp H H') (e : But H H' al) : W14 K C H' b l g h dx p q h2 dx2 p2 q2 m ns i gw gx gy k M ks := by
  obtain ⟨z1, z2, z3⟩ := z
  refine ⟨?_, kp.tup a.g, a.grid, a.a.keep kp (fun _ y => e _ _ y (Ne.symm z2.1)) (fun _ y => e _ _ y (Ne.symm z2.2.1)) (fun _ y => e _ _ y (Ne.symm z2.2.2)) (Nat.le_refl _), a.e.keep kp (fun _ y => e _ _ y (Ne.symm z3.1)) (fun _ y => e _ _ y (Ne.symm z3.2.1)) (fun _ y => e _ _ y (Ne.symm z3.2.2)) (Nat.le_refl _), a.ap, a.ap2, a.nb, a.nl, a.nb2, a.nl2, a.md.keep kp, a.s, a.ks⟩
  obtain ⟨⟨i, z, s, c, q1, q2, q3, q4, q5⟩, q6, q7⟩ := a.bag
  exact ⟨⟨i, z, s, c, e _ _ q1 (Ne.symm z1.1), q2, q3, q4, q5⟩, e _ _ q6 (Ne.symm z1.2), q7⟩
theorem W14.new {H : Hp} {b l g h dx p q h2 dx2 p2 q2 m al : Addr} {ns : List Int} {i : Nat} {gw gx gy : Int} {k : Nat} {M : Md} {ks : List Int} (a : W14 K C H b l g h dx p q h2 dx2 p2 q2 m ns i gw gx gy k M ks) (n : H al = none) : AlA al b l h p q h2 p2 q2 := ⟨⟨bag_ne a.bag n, Ne.symm (ne_of_none a.bag.ls n)⟩, a.a.new n, a.e.new n⟩
theorem loop2 {tz : TS} {D : Ends} {a b g d h dx p q h2 dx2 p2 q2 m l al : Addr} {H : Hp} {ns : List Int} {N : Nat} {gw gx gy : Int} {k : Nat} {M : Md} {ks : List Int} {v7 : Option V} (W : W14 K C H b l g h dx p q h2 dx2 p2 q2 m ns N gw gx gy k M ks) (hk : k ≤ 400) (hal : H al = some (.lst [])) (nal : AlA al b l h p q h2 p2 q2)
    (kk : ∀ v7 v9 v10 v11 ts H', W14 K C H' b l g h dx p q h2 dx2 p2 q2 m ns N gw gx gy k M ks → H' al = some (.lst (ts.map V.ref)) → ts.length = M.lamps.length → TwsA K C H' b al ts M → tz D (st14 a b g d h h2 m v7 (some (.ref al)) v9 v10 v11 none none none) H') :
    tSeq (tFor (iList K tKeys) (gName 7) (tSeq (tPar 9 10 (tCons (tMeth C "twin" (spTwin K C 20) [] E0 (tVar 4) tNil) (tCons (tMeth C "twin" (spTwin K C 20) [] E0 (tVar 4) tNil) tNil))) (tSeq (tFor (iList K tKeys) (gName 11) (tIfS (tTest (tOp rNe (tVar 11) (tVar 7))) (tSeq (tDrop (tMeth C "drop" (spDropH K C 20) [] E0 (tVar 9) (tCons (tC (V.str "lamp")) (tCons (tVar 11) tNil)))) (tIfS (tB (tOp (rIxT K) (tDGet (tDGet (tVar 6) (tC (V.str "lamp"))) (tVar 11)) (tC (V.int 3)))) (tDrop (tMeth C "switch" (spSwitchH2 K C 20) [] E0 (tVar 10) (tCons (tVar 11) tNil))) tNext)) tNext)) (tDrop (tBM K "list" rAppend (tVar 8) (tCons (tTup (tCons (tVar 9) (tCons (tVar 10) tNil))) tNil)))))) tz D (st14 a b g d h h2 m v7 (some (.ref al)) none none none none none none) H := by
  have hM30 := W.md.few.1
  refine q_forNLn (K := K) (el_lamps W.md (ev_var rfl)) (fun pp i σ' H' => H' pp = some (.lst ((M.lamps.map (·.1)).map V.int)) ∧ pp ≠ al ∧ W14 K C H' b l g h dx p q h2 dx2 p2 q2 m ns N gw gx gy k M ks ∧ ∃ (v7 v9 v10 v11 : Option V) (ts : List Addr), σ' = st14 a b g d h h2 m v7 (some (.ref al)) v9 v10 v11 none none none ∧ H' al = some (.lst (ts.map V.ref)) ∧ ts.length = i ∧ TwsA K C H' b al ts M) ?_ ?_ ?_ ?_
  · intro pp H1 np e1 hpp
    exact ⟨hpp, Ne.symm (ne_of_none hal np), W.ext e1 (Nat.le_refl _), v7, none, none, none, [], rfl, e1 _ _ hal, rfl, fun i t num h1 => by cases h1⟩
  · rintro pp i σ' H' _ ⟨hp, _⟩
    exact sq_of hp
  · rintro pp i x σ' H' hx ⟨hpp, npa, W', v7, v9, v10, v11, ts, rfl, hal', htl, hT⟩
    rw [List.getElem?_map] at hx
    obtain ⟨num, hnum, rfl⟩ := Option.map_eq_some_iff.mp hx
    have hi : i < M.lamps.length := by
      have := (List.getElem?_eq_some_iff.mp hnum).1
      rwa [List.length_map] at this
    dsimp only [st14, List.set]
    obtain ⟨fs, hh, hf⟩ := W'.a.ins
    refine ⟨_, rfl, h, dx, fs, rfl, hh, hf "twin" (by decide +kernel), ⟨h, dx, p, q, k, stOf M, rfl, W'.a, by omega, fun o dxo po qo H2 fo1 fo2 fo3 e2 A2 => ?_⟩⟩
    have a2 := W'.a.ext e2
    refine ⟨_, rfl, h, dx, fs, rfl, e2 _ _ hh, hf "twin" (by decide +kernel), ⟨h, dx, p, q, k, stOf M, rfl, a2, by omega, fun w dxw pw qw H3 fw1 fw2 fw3 e3 B3 => ⟨_, _, rfl, ?_⟩⟩⟩
    obtain ⟨⟨_, s1⟩, ⟨_, s2⟩, _, s3⟩ := A2.some
    have fw : H2 w = none ∧ H2 pw = none ∧ H2 qw = none := ⟨fw1, fw2, fw3⟩
    have z1 := some_not s1 fw
    have z2 := some_not s2 fw
    have z3 := some_not s3 fw
    have e23 := e2.trans e3
    dsimp only [List.set]
    refine loop3 (K := K) (C := C) (H0 := H') (k := k) (M := M) (num := num) (dxo := dxo) (po := po) (qo := qo) (dxw := dxw) (pw := pw) (qw := qw) W'.md e23 ⟨fo1, fo2, fo3⟩ ⟨fresh_back e2 fw1, fresh_back e2 fw2, fresh_back e2 fw3⟩ ⟨z1, z2, z3⟩ ⟨⟨Ne.symm z1.1, Ne.symm z2.1, Ne.symm z3.1⟩, ⟨Ne.symm z1.2.1, Ne.symm z2.2.1, Ne.symm z3.2.1⟩, ⟨Ne.symm z1.2.2, Ne.symm z2.2.2, Ne.symm z3.2.2⟩⟩ (A2.ext e3) B3 (by omega) (fun v11 H4 e4 A4 B4 => ?_)
    refine ⟨_, rfl, .inl ⟨rfl, _, sq_of (e4 _ _ hal')⟩, _, rfl, _, rfl, sz_of (by simp), fun t ht => ⟨al, ts.map V.ref, _, rfl, rfl, (Ex.new ht) _ _ (e4 _ _ hal'), sz_lt (by rw [List.length_map]; omega), ?_⟩⟩
    have x5 := Ex.new (o := .tup [V.ref o, .ref w]) ht
    have e5 := e4.trans x5
    have hal5 := e5 _ _ hal'
    have ht5 := upd_same (H := H4) (a := t) (o := .tup [V.ref o, .ref w])
    have A5 := (A4.more (m' := 900) (by omega)).ext x5
    have B5 := (B4.more (m' := 900) (by omega)).ext x5
    generalize upd H4 t (.tup [V.ref o, .ref w]) = H5 at x5 e5 hal5 ht5 A5 B5 ⊢
    have kp : Kp H5 (upd H5 al (.lst (ts.map V.ref ++ [V.ref t]))) := Kp.upd hal5
    have bt : But H5 (upd H5 al (.lst (ts.map V.ref ++ [V.ref t]))) al := But.upd But.refl
    obtain ⟨xb, hb'⟩ := bag_lst W'.bag
    have nw : ∀ x u, H' x = some u → (x ≠ o ∧ x ≠ po ∧ x ≠ qo) ∧ (x ≠ w ∧ x ≠ pw ∧ x ≠ qw) := fun x u hx => ⟨some_not hx ⟨fo1, fo2, fo3⟩, some_not (e2 _ _ hx) fw⟩
    have T5 : TwA K C H5 b al t M num := ⟨o, dxo, po, qo, w, dxw, pw, qw, ht5, A5, B5, fun x hx => by
      rcases hx with rfl | rfl
      · exact nw _ _ hb'
      · exact nw _ _ hal'⟩
    refine ⟨?_, npa, (W'.ext e5 (Nat.le_refl _)).al nal kp bt, _, _, _, v11, ts ++ [t], rfl, ?_, ?_, fun j t' n' h1 h2 => ?_⟩
    · rw [upd_ne npa]
      exact e5 _ _ hpp
    · rw [upd_same, List.map_append]
      rfl
    · rw [List.length_append, htl]
      rfl
    · by_cases hj : j < ts.length
      · rw [List.getElem?_append_left hj] at h1
        exact ((hT j t' n' h1 h2).ext e5).keep kp bt (.inr rfl)
      · rw [List.getElem?_append_right (by omega)] at h1
        have hj0 : j - ts.length = 0 := by
          have := (List.getElem?_eq_some_iff.mp h1).1
          simp only [List.length_singleton] at this
          omega
        rw [hj0] at h1
        cases h1
        have hji : j = i := by omega
        rw [hji, hnum] at h2
        cases h2
        exact T5.keep kp bt (.inr rfl)
  · rintro pp σ' H' ⟨_, _, W', v7, v9, v10, v11, ts, rfl, hal', htl, hT⟩
    rw [List.length_map, List.length_map] at htl
    exact kk v7 v9 v10 v11 ts H' W' hal' htl hT
end
end Hs
namespace Hs
open PySem PySem.Spec PyProof.Rows L2 Evl
section
variable {K : PySem.W.Frag} {C : Addr} {σ : L2.St} {H : Hp}
/-- a comprehension over pairs that makes a light of each -/
theorem lc_tw {tl te : TE} {al : Addr} {ts : List Addr} {xs : List Tri} {i j : Nat} {vs : List Nat} {Q : VK} (h : Ev tl σ H (.ref al)) (hal : H al = some (.lst (ts.map V.ref))) (hlen : ts.length = xs.length) (hl : ts.length ≤ 1000) (hw : ∀ x y, wipe (((wipe σ vs).set i (some x)).set j (some y)) vs = wipe σ vs)
    (hs : ∀ (n : Nat) (t : Addr) (x : Tri), ts[n]? = some t → xs[n]? = some x → ∃ o w : Addr, H t = some (.tup [.ref o, .ref w]) ∧ ∀ H' Q', Ex H H' → (∀ p H2, H' p = none → Ex H' H2 → H2 p = some (.tup (tri x)) → Q' (.ref p) H2) → te (((wipe σ vs).set i (some (.ref o))).set j (some (.ref w))) H' Q')
    (k : ∀ Dl us H', H Dl = none → Ex H H' → H' Dl = some (.lst (us.map V.ref)) → Lights K H' us xs → Q (.ref Dl) H') : tLc (iList K tl) (gTup K 2 (gCons (gName i) (gCons (gName j) gNil))) tYes te vs σ H Q := by
  refine h H (Ex.refl _) _ fun H1 e1 => ⟨al, rfl, ⟨_, sq_of (e1 _ _ hal)⟩, fun Dl hDl => ?_⟩
  refine lc_it (walk_list (K := K) (a := al) (xs := ts.map V.ref)) (fun n H' => Ex H1 H' ∧ ∃ us : List Addr, H' Dl = some (.lst (us.map V.ref)) ∧ Lights K H' us (xs.take n)) ⟨Ex.new hDl, [], upd_same, ⟨rfl, fun i p x hp => by cases hp⟩⟩ (fun n H' _ q => sq_of (q.1 _ _ (e1 _ _ hal))) (fun n x H' H'' hi q y => ?_) (fun H' q => ?_)
  · obtain ⟨rfl, hx⟩ := y
    obtain ⟨e, us, hD', hu⟩ := q
    rw [List.getElem?_map] at hx
    obtain ⟨t, ht, rfl⟩ := Option.map_eq_some_iff.mp hx
    have hni := (List.getElem?_eq_some_iff.mp ht).1
    obtain ⟨x, hxn⟩ : ∃ x, xs[n]? = some x := ⟨_, List.getElem?_eq_getElem (by omega)⟩
    obtain ⟨o, w, hp, st⟩ := hs n t x ht hxn
    refine ⟨t, _, rfl, st_of (e _ _ (e1 _ _ hp)), rfl, _, _, rfl, _, _, rfl, rfl, hw _ _, ?_⟩
    simp only [tYes, if_true]
    refine st _ _ (e1.trans e) fun p H2 np e2 h2 => ?_
    have hD2 := e2 _ _ hD'
    have ul : us.length ≤ 1000 := by
      have := hu.1
      rw [List.length_take] at this
      omega
    refine ⟨_, hD2, sz_lt (by rw [List.length_map]; omega), Ex.mut (e.trans e2) hDl, us ++ [p], by rw [upd_same, List.map_append] <;> rfl, ?_⟩
    rw [List.take_add_one, hxn]
    exact all_snoc ⟨hu.1, fun i p x h1 h3 => sqt_upd (ex_t e2 (hu.2 i p x h1 h3)) hD2 (by intro ys z; cases z) (by intro od v z; cases z)⟩ (sqt_upd (st_of h2) hD2 (by intro ys z; cases z) (by intro od v z; cases z))
  · obtain ⟨e, us, hD', hu⟩ := q
    have elen : (ts.map V.ref).length = xs.length := by rw [List.length_map, hlen]
    rw [elen, List.take_length] at hu
    exact k Dl us H' (fresh_back e1 hDl) (e1.trans e) hD' hu
end
end Hs
namespace Hs
open PySem PySem.Spec PyProof.Rows L2 Evl
def spLaw (K : PySem.W.Frag) : Sp := fun vs H Q _ => ∃ (a : Addr) (ns : List Int), vs = [.ref a] ∧ SqL K H a (ns.map V.int) ∧ ns.length ≤ 63 ∧ ∀ H', Q (.bl true) H'
section
variable {P : Program} {w : World} {K : PySem.W.Frag} {mg : Str → Option Value} {base : Heap} {f C : Addr} {fd : FuncData}
abbrev sLaw : Stmt := top 136
theorem scLaw : FnScope ["_law_script", "_law_bag_here", "_law_grid_here", "_law_deeds", "_law_house", "_law_great", "_law_m", "_law_number", "_law_alone", "_law_one_here", "_law_two", "_law_other", "_law_a", "_law_b", "_law_due", "_law_deed", "_law_part"] ["_law_script"] (defScope sLaw) := ⟨rfl, rfl, rfl, by decide +kernel, rfl, by decide +kernel, by decide +kernel⟩
theorem ok_law (F : FnP K "law" sLaw f fd) (O__law_bag : Own P w K mg base 1 "_law_bag" ["_law_script"] (spBag K)) (O__law_grid : Own P w K mg base 2 "_law_grid" ["_law_bag_here"] spGrid) (O__law_pull : Own P w K mg base 1 "_law_pull" ["_law_bag_here", "_law_many"] spPull) (M_House : MkX P w K mg base 3 "House" C ["self"] (spInit K C)) (O__law_new : Own P w K mg base 1 "_law_new" [] spNewM) (O__law_floor_deeds : Own P w K mg base 5 "_law_floor_deeds" ["_law_bag_here", "_law_grid_here", "_law_lamps", "_law_posts", "_law_panes"] spFloorD) (O__law_laid : Own P w K mg base 8 "_law_laid" ["_law_house", "_law_m", "_law_deeds"] (spLaidX K C 20)) (O__law_twice : Own P w K mg base 1 "_law_twice" ["_law_deed"] (spTwice K)) (O__law_after : Own P w K mg base 4 "_law_after" ["_law_m", "_law_deed"] (spAfterSw K 20)) (O__law_spots : Own P w K mg base 3 "_law_spots" ["_law_bag_here", "_law_grid_here", "_law_m", "_law_many"] (spSpots K)) (O__law_same : Own P w K mg base 4 "_law_same" ["_law_got", "_law_due"] (spSame K 4)) (O__law_sum : Own P w K mg base 1 "_law_sum" ["_law_some"] (spSum K)) (M_light : MetX P w K mg base 9 C "light" ["self", "across", "up", "setting"] [.non] (spLightX K C)) (M_switch : MetX P w K mg base 8 C "switch" ["self", "number"] [] (spSwitchH2 K C 20)) (M_drop : MetX P w K mg base 8 C "drop" ["self", "sort", "number"] [] (spDropH K C 20)) (M_twin : MetX P w K mg base 5 C "twin" ["self"] [] (spTwin K C 20)) (g_tuple : mg "tuple" = none) (g_sorted : mg "sorted" = none) : FnOk P w K mg base CX0 10 f fd ["_law_script"] (spLaw K) := by
  have nd := scLaw.nd
  refine F.ok scLaw (fun vs H Q E h => ?_) (fun cdv A outer s H vs Q E hr h => ⟨_, PSs.nox (pss_cons (ps_set (i := 1) nd rfl (.inl rfl) (Hs.pe_own O__law_bag hr (by first | decide | omega) (by rfl) (pa_cons (pv 0) pa_nil)))
  (pss_cons (ps_set (i := 2) nd rfl (.inl rfl) (Hs.pe_own O__law_grid hr (by first | decide | omega) (by rfl) (pa_cons (pv 1) pa_nil)))
  (pss_cons (ps_set (i := 3) nd rfl (.inl rfl) (Hs.pe_own O__law_floor_deeds hr (by first | decide | omega) (by rfl) (pa_cons (pv 1) (pa_cons (pv 2) (pa_cons pe_int (pa_cons pe_int (pa_cons pe_int pa_nil)))))))
  (pss_cons (ps_setLc (i := 3) (own := [("_law_deed", 15)]) rfl nd rfl rfl (sw_true rfl rfl rfl (by decide +kernel)) (pi_list (pv 3)) (blkOk_by (N := ["_law_script", "_law_bag_here", "_law_grid_here", "_law_deeds", "_law_house", "_law_great", "_law_m", "_law_number", "_law_alone", "_law_one_here", "_law_two", "_law_other", "_law_a", "_law_b", "_law_due", "_law_deed", "_law_part"]) (sc := defScope (Hs.top 136)) (by decide +kernel)) (fun _ _ _ _ _ => (pg_name (i := 15) nd rfl (Or.inl rfl))) (fun _ _ _ _ _ => pts_nil) (fun _ _ _ _ _ => (pe_ifExp (pt_cmpR op_eq (pe_ix (r := rIxT K) ix_tup (pv 15) pe_int (fun _ _ => rfl)) pe_str (nomark _)) (pe_op (r := rCatT K) op_catT (pe_slice (r := rSlT K) sl_tup (pv 15) po_none (po_some pe_int)) (pe_callTy (T := "tuple") (r := Hs.rTupK K) call_tuple_of (by rfl) g_tuple (by decide +kernel) (pa_cons (by exact (pe_lc (own := [("_law_part", 16)]) rfl nd (Hs.pi_tupK (K := K) (pe_slice (r := rSlT K) sl_tup (pv 15) (po_some pe_int) po_none)) (blkOk_by (N := ["_law_script", "_law_bag_here", "_law_grid_here", "_law_deeds", "_law_house", "_law_great", "_law_m", "_law_number", "_law_alone", "_law_one_here", "_law_two", "_law_other", "_law_a", "_law_b", "_law_due", "_law_deed", "_law_part"]) (by rfl)) (fun _ _ _ _ _ => (pg_name (i := 16) nd rfl (Or.inl rfl))) (fun _ _ _ _ _ => pts_nil) (fun _ _ _ _ _ => (pe_op Hs.op_fdivG (pv 16) pe_int)))) pa_nil))) (pv 15))))
  (pss_cons (ps_par (i := 4) (j := 5) (by rfl) nd rfl rfl (by decide) rfl rfl (pa_cons (Hs.pe_mkX M_House hr (by decide) (by rfl)) (pa_cons (Hs.pe_mkX M_House hr (by decide) (by rfl)) pa_nil)) (by rfl))
  (pss_cons (ps_set (i := 6) nd rfl (.inl rfl) (Hs.pe_own O__law_laid hr (by first | decide | omega) (by rfl) (pa_cons (pv 4) (pa_cons (Hs.pe_own0 O__law_new hr (by first | decide | omega) (by rfl)) (pa_cons (pv 3) pa_nil)))))
  (pss_cons (ps_expr (Hs.pe_own O__law_laid hr (by first | decide | omega) (by rfl) (pa_cons (pv 5) (pa_cons (Hs.pe_own0 O__law_new hr (by first | decide | omega) (by rfl)) (pa_cons (pe_lc (own := [("_law_deed", 15)]) rfl nd (pi_list (pv 3)) (blkOk_by (N := ["_law_script", "_law_bag_here", "_law_grid_here", "_law_deeds", "_law_house", "_law_great", "_law_m", "_law_number", "_law_alone", "_law_one_here", "_law_two", "_law_other", "_law_a", "_law_b", "_law_due", "_law_deed", "_law_part"]) (sc := defScope (Hs.top 136)) (by decide +kernel)) (fun _ _ _ _ _ => (pg_name (i := 15) nd rfl (Or.inl rfl))) (fun _ _ _ _ _ => pts_nil) (fun _ _ _ _ _ => (Hs.pe_own O__law_twice hr (by first | decide | omega) (by rfl) (pa_cons (pv 15) pa_nil)))) pa_nil)))))
  (pss_cons (ps_for PassesOwn.never rfl (pi_list (pe_callB (r := Hs.rSortDI) (Hs.cr_sortDI rfl) (by rfl) g_sorted (by decide +kernel) (pa_cons (pe_dget (Hs.un1 hr) (pv 6) pe_str (fun _ _ => rfl)) pa_nil))) (pg_name (i := 7) nd rfl (.inl rfl)) (pss_one (ps_if (pt_cmpR op_eq (Hs.pe_own O__law_pull hr (by first | decide | omega) (by rfl) (pa_cons (pv 1) (pa_cons pe_int pa_nil))) pe_int (nomark _)) (pss_cons (ps_expr (Hs.pe_metX (E := E0) M_switch hr (by decide) passL (pv 4) (pa_cons (pv 7) pa_nil)))
  (pss_cons (ps_expr (Hs.pe_metX (E := E0) M_switch hr (by decide) passL (pv 5) (pa_cons (pv 7) pa_nil)))
  (pss_one (ps_set (i := 6) nd rfl (.inl rfl) (Hs.pe_own O__law_after hr (by first | decide | omega) (by rfl) (pa_cons (pv 6) (pa_cons (pe_tup (pa_cons pe_str (pa_cons (pv 7) pa_nil))) pa_nil))))))) pss_nil)))
  (pss_cons (ps_set (i := 8) nd rfl (.inl rfl) (pe_lst pa_nil))
  (pss_cons (ps_for PassesOwn.never rfl (pi_list (pe_callB (r := Hs.rSortDI) (Hs.cr_sortDI rfl) (by rfl) g_sorted (by decide +kernel) (pa_cons (pe_dget (Hs.un1 hr) (pv 6) pe_str (fun _ _ => rfl)) pa_nil))) (pg_name (i := 7) nd rfl (.inl rfl)) (pss_cons (ps_par (i := 9) (j := 10) (by rfl) nd rfl rfl (by decide) rfl rfl (pa_cons (Hs.pe_metX0 (E := E0) M_twin hr (by decide) passL (pv 4)) (pa_cons (Hs.pe_metX0 (E := E0) M_twin hr (by decide) passL (pv 4)) pa_nil)) (by rfl))
  (pss_cons (ps_for PassesOwn.never rfl (pi_list (pe_callB (r := Hs.rSortDI) (Hs.cr_sortDI rfl) (by rfl) g_sorted (by decide +kernel) (pa_cons (pe_dget (Hs.un1 hr) (pv 6) pe_str (fun _ _ => rfl)) pa_nil))) (pg_name (i := 11) nd rfl (.inl rfl)) (pss_one (ps_if (pt_cmpR op_ne (pv 11) (pv 7) (nomark _)) (pss_cons (ps_expr (Hs.pe_metX (E := E0) M_drop hr (by decide) passL (pv 9) (pa_cons pe_str (pa_cons (pv 11) pa_nil))))
  (pss_one (ps_if (pt_val (pe_ix (r := rIxT K) ix_tup (pe_dget (Hs.un1 hr) (pe_dget (Hs.un1 hr) (pv 6) pe_str (fun _ _ => rfl)) (pv 11) (fun _ _ => rfl)) pe_int (fun _ _ => rfl))) (pss_one (ps_expr (Hs.pe_metX (E := E0) M_switch hr (by decide) passL (pv 10) (pa_cons (pv 11) pa_nil)))) pss_nil))) pss_nil)))
  (pss_one (ps_expr (pe_bm PySem.F.plainAttrs_list PySem.F.slot_list_append PySem.F.type_list_append mt_append (pv 8) (pa_cons (pe_tup (pa_cons (pv 9) (pa_cons (pv 10) pa_nil))) pa_nil)))))))
  (pss_cons (ps_for PassesOwn.never rfl (pi_list (Hs.pe_own O__law_spots hr (by first | decide | omega) (by rfl) (pa_cons (pv 1) (pa_cons (pv 2) (pa_cons (pv 6) (pa_cons pe_int pa_nil)))))) (pg_tup rfl (pgs_cons (pg_name (i := 12) nd rfl (.inr rfl)) (pgs_cons (pg_name (i := 13) nd rfl (.inr rfl)) pgs_nil))) (pss_cons (ps_set (i := 14) nd rfl (.inl rfl) (Hs.pe_metX (E := E0) M_light hr (by decide) passL (pv 4) (pa_cons (pv 12) (pa_cons (pv 13) pa_nil))))
  (pss_cons (ps_if (pt_not (pt_val (Hs.pe_own O__law_same hr (by first | decide | omega) (by rfl) (pa_cons (Hs.pe_own O__law_sum hr (by first | decide | omega) (by rfl) (pa_cons (pe_lc (own := [("_law_one_here", 9), ("_law_two", 10)]) (g := gTup K 2 (gCons (gName 9) (gCons (gName 10) gNil))) rfl nd (pi_list (pv 8)) (blkOk_by (N := ["_law_script", "_law_bag_here", "_law_grid_here", "_law_deeds", "_law_house", "_law_great", "_law_m", "_law_number", "_law_alone", "_law_one_here", "_law_two", "_law_other", "_law_a", "_law_b", "_law_due", "_law_deed", "_law_part"]) (sc := defScope (Hs.top 136)) (by decide +kernel)) (fun _ _ _ _ _ => (pg_tup rfl (pgs_cons (pg_name (i := 9) nd rfl (Or.inl rfl)) (pgs_cons (pg_name (i := 10) nd rfl (Or.inl rfl)) pgs_nil)))) (fun _ _ _ _ _ => pts_nil) (fun _ _ _ _ _ => (Hs.pe_metX (E := E0) M_light hr (by decide) passL (pv 9) (pa_cons (pv 12) (pa_cons (pv 13) pa_nil))))) pa_nil)) (pa_cons (pv 14) pa_nil))))) (pss_one (ps_ret pe_bl)) pss_nil)
  (pss_cons (ps_if (pt_not (pt_val (Hs.pe_own O__law_same hr (by first | decide | omega) (by rfl) (pa_cons (Hs.pe_own O__law_sum hr (by first | decide | omega) (by rfl) (pa_cons (pe_lc (own := [("_law_one_here", 9), ("_law_two", 10)]) (g := gTup K 2 (gCons (gName 9) (gCons (gName 10) gNil))) rfl nd (pi_list (pv 8)) (blkOk_by (N := ["_law_script", "_law_bag_here", "_law_grid_here", "_law_deeds", "_law_house", "_law_great", "_law_m", "_law_number", "_law_alone", "_law_one_here", "_law_two", "_law_other", "_law_a", "_law_b", "_law_due", "_law_deed", "_law_part"]) (sc := defScope (Hs.top 136)) (by decide +kernel)) (fun _ _ _ _ _ => (pg_tup rfl (pgs_cons (pg_name (i := 9) nd rfl (Or.inl rfl)) (pgs_cons (pg_name (i := 10) nd rfl (Or.inl rfl)) pgs_nil)))) (fun _ _ _ _ _ => pts_nil) (fun _ _ _ _ _ => (Hs.pe_metX (E := E0) M_light hr (by decide) passL (pv 10) (pa_cons (pv 12) (pa_cons (pv 13) pa_nil))))) pa_nil)) (pa_cons (pv 14) pa_nil))))) (pss_one (ps_ret pe_bl)) pss_nil)
  (pss_one (ps_if (pt_not (pt_val (Hs.pe_own O__law_same hr (by first | decide | omega) (by rfl) (pa_cons (Hs.pe_metX (E := E0) M_light hr (by decide) passL (pv 5) (pa_cons (pv 12) (pa_cons (pv 13) pa_nil))) (pa_cons (pe_callTy call_tuple_of (by rfl) g_tuple (by decide +kernel) (pa_cons (pe_lc (own := [("_law_part", 16)]) rfl nd (pi_tup (pv 14)) (blkOk_by (N := ["_law_script", "_law_bag_here", "_law_grid_here", "_law_deeds", "_law_house", "_law_great", "_law_m", "_law_number", "_law_alone", "_law_one_here", "_law_two", "_law_other", "_law_a", "_law_b", "_law_due", "_law_deed", "_law_part"]) (sc := defScope (Hs.top 136)) (by decide +kernel)) (fun _ _ _ _ _ => (pg_name (i := 16) nd rfl (Or.inl rfl))) (fun _ _ _ _ _ => pts_nil) (fun _ _ _ _ _ => (pe_op op_mulW pe_int (pv 16)))) pa_nil)) pa_nil))))) (pss_one (ps_ret pe_bl)) pss_nil))))))
  (pss_one (ps_ret pe_bl))))))))))))), ?_⟩)
  · obtain ⟨a, ns, rfl, _⟩ := h
    rfl
  · obtain ⟨a, ns, rfl, hS, hl, k⟩ := h
    refine ⟨_, rfl, a, ns, rfl, hS, hl, fun b l H1 nb nl B1 e1 => ?_⟩
    dsimp only [gName, List.set]
    refine ⟨_, rfl, b, l, ns, _, rfl, B1, by decide, fun g gw gx gy H2 G ng hg B2 b2 => ?_⟩
    dsimp only [gName, List.set]
    refine ⟨_, rfl, _, rfl, b, l, g, ns, _, gw, gx, gy, 5, 4, 4, rfl, B2, by decide, hg, G, by decide, by decide, by decide, fun d zs H3 nd3 hd3 hDs hnear hcap hzl B3 b3 => ?_⟩
    have hg3 := (bag_kp B2 b3).tup hg
    dsimp only [gName, List.set]
    refine q_asgV ?_
    refine lc_deeds (f := Deed.tint halfT) (ev_var rfl) hd3 (by omega) (fun _ => rfl) (fun z hz H' Q' e hQ => ?_) (fun d4 us H4 nd4 e4 hd4 hU hUm => ?_)
    · have hz3 := e _ _ (hDs z hz)
      obtain ⟨za, D⟩ := z
      have hzn := hnear _ hz
      cases D with
      | lamp c =>
        have at0 : atI (Deed.lamp c).vals 0 = some (.str "lamp") := rfl
        obtain ⟨b1, b2', b3'⟩ := hzn.2
        refine (et_test (ev_op (ev_ixt (xs := (Deed.lamp c).vals) rfl (st_of hz3) at0) ev_c (rv_eq rfl)) : EvT _ _ H' true) H' (Ex.refl _) _ fun H5 e5 => ?_
        rw [if_pos rfl]
        have hd1 := e5 _ _ hz3
        refine (eu_sl (K := K) (xs := (Deed.lamp c).vals) (lo := none) (hi := some 3) (ev_var rfl) eo_none (eo_some ev_c) (st_of hd1) (fun z => nomatch (show (3 : Nat) = 6 from z.2))) H5 (Ex.refl _) _ fun p1 H6 np1 e6 h2 => ?_
        have hd2 := e6 _ _ hd1
        refine (eu_tuple (K := K) (xs := tri (halfT c.2.2)) (el_lcNT (K := K) (xs := tri c.2.2) (fun i => [V.int (c.2.2.1.fdiv 2), .int (c.2.2.2.1.fdiv 2), .int (c.2.2.2.2.fdiv 2)].getD i .non) (eu_sl (K := K) (xs := (Deed.lamp c).vals) (lo := some 3) (hi := none) (ev_var rfl) (eo_some ev_c) eo_none (st_of hd2) (fun z => nomatch (show (3 : Nat) = 0 from z.1))) (by show 3 ≤ 40000; decide) (fun _ => rfl) (fun i x H7 e7 hx => ?_))) H6 (Ex.refl _) _ fun p2 H7 np2 e7 h3 => ?_
        · have dv : ∀ i : Int, CDivG i 2 := fun i => divG (b := 2) (by decide) (by decide) (by decide) (by decide)
          match i, hx with
          | 0, hx => cases hx; exact ev_op (ev_var rfl) ev_c (rv_I (dv _))
          | 1, hx => cases hx; exact ev_op (ev_var rfl) ev_c (rv_I (dv _))
          | 2, hx => cases hx; exact ev_op (ev_var rfl) ev_c (rv_I (dv _))
          | i + 3, hx => cases hx
        · refine ⟨p1, p2, _, _, rfl, rfl, st_of (e7 _ _ h2), st_of h3, by rw [List.ne_nil_iff_length_pos]; show 0 < 3; decide, by show 3 + 3 ≤ sizeLine; decide, (fun z => by cases z), fun _ u hu => ?_⟩
          exact hQ u _ ((e5.trans (e6.trans e7)).trans (Ex.new hu)) upd_same
      | post B =>
        have at0 : atI (Deed.post B).vals 0 = some (.str "post") := rfl
        refine (et_is (et_test (ev_op (ev_ixt (xs := (Deed.post B).vals) rfl (st_of hz3) at0) ev_c (rv_eq rfl))) (by decide +kernel) : EvT _ _ H' false) H' (Ex.refl _) _ fun H5 e5 => ?_
        rw [if_neg (by decide)]
        exact ⟨_, rfl, hQ za H5 e5 (e5 _ _ hz3)⟩
      | pane u v z =>
        have at0 : atI (Deed.pane u v z).vals 0 = some (.str "pane") := rfl
        refine (et_is (et_test (ev_op (ev_ixt (xs := (Deed.pane u v z).vals) rfl (st_of hz3) at0) ev_c (rv_eq rfl))) (by decide +kernel) : EvT _ _ H' false) H' (Ex.refl _) _ fun H5 e5 => ?_
        rw [if_neg (by decide)]
        exact ⟨_, rfl, hQ za H5 e5 (e5 _ _ hz3)⟩
    refine fun h dx hh hdx ndx => ⟨h, dx, rfl, upd_same, fun s0 p q H5 kp5 hh5 np5 nq5 npq5 hp5 hq5 hF5 => ⟨rfl, ?_⟩⟩
    obtain ⟨e5, a5, fr5⟩ := house_new (n := 20) hh hdx kp5 hh5 np5 nq5 npq5 hp5 hq5 hF5
    refine fun h2 dx2 hh2 hdx2 ndx2 => ⟨h2, dx2, rfl, upd_same, fun s1 p2 q2 H6 kp6 hh6 np6 nq6 npq6 hp6 hq6 hF6 => ⟨rfl, ?_⟩⟩
    obtain ⟨e6, g6, fr6⟩ := house_new (n := 20) hh2 hdx2 kp6 hh6 np6 nq6 npq6 hp6 hq6 hF6
    have ah2 := some_not hh5 fr6
    have ap2 := some_not hp5 fr6
    have aq2 := some_not hq5 fr6
    have apA : Apart h p q h2 p2 q2 := ⟨ah2, ap2, aq2⟩
    have apB : Apart h2 p2 q2 h p q := ⟨⟨Ne.symm ah2.1, Ne.symm ap2.1, Ne.symm aq2.1⟩, ⟨Ne.symm ah2.2.1, Ne.symm ap2.2.1, Ne.symm aq2.2.1⟩, ⟨Ne.symm ah2.2.2, Ne.symm ap2.2.2, Ne.symm aq2.2.2⟩⟩
    have B4 := B3.ext e4 (Nat.le_refl _)
    obtain ⟨xb, hb4⟩ := bag_lst B4
    have nb1 := some_not hb4 fr5
    have nl1 := some_not B4.ls fr5
    have nb2 := some_not (e5 _ _ hb4) fr6
    have nl2 := some_not (e5 _ _ B4.ls) fr6
    have nd1 := some_not hd4 fr5
    have nd2 := some_not (e5 _ _ hd4) fr6
    have e46 := e5.trans e6
    refine ⟨_, _, rfl, ?_⟩
    dsimp only [List.set]
    -- the deeds
    have hDs : us.map (fun z => z.2) = (zs.map fun z => z.2).map (Deed.tint halfT) := by
      rw [List.map_map]
      exact hUm
    have hlen : us.length = zs.length := by
      have := congrArg List.length hUm
      rwa [List.length_map, List.length_map] at this
    have hnr : ∀ D ∈ us.map (fun z => z.2), D.near ∧ (D.tint twoT).near := fun D hD => by
      rw [hDs] at hD
      obtain ⟨D0, hD0, rfl⟩ := List.mem_map.mp hD
      obtain ⟨z, hz, rfl⟩ := List.mem_map.mp hD0
      exact ⟨near_half (hnear z hz), near_twice (hnear z hz)⟩
    have hcp : CapD (us.map fun z => z.2) 5 4 4 := by
      rw [hDs]
      exact cap_tint hcap
    have cap12 : ∀ {Ds : List Deed}, CapD Ds 5 4 4 → CapD Ds 12 12 12 := fun z => ⟨Nat.le_trans z.1 (by decide), Nat.le_trans z.2.1 (by decide), Nat.le_trans z.2.2 (by decide)⟩
    refine q_asgV ⟨_, rfl, rfl, fun T m0 H7 nm e7 h0 hc hR => ⟨_, rfl, ?_⟩⟩
    have e47 := e46.trans e7
    have a7 : HsX K C 20 H7 h dx p q 0 Stt.new := a5.ext (e6.trans e7)
    have g7 : HsX K C 20 H7 h2 dx2 p2 q2 0 Stt.new := g6.ext e7
    refine ⟨h, m0, d4, dx, p, q, 0, us, rfl, a7, MdA.new hR h0 hc, e47 _ _ hd4, nd1.2.1, nd1.2.2, fun z hz => e47 _ _ (hU z hz), fun z hz => (hnr z.2 (List.mem_map.mpr ⟨z, hz, rfl⟩)).1.good, cap12 hcp, by omega, fun m H8 k8 a8 M8 => ?_⟩
    dsimp only [List.set]
    have kp8 := a7.kp k8
    have g8 := g7.kept a7 k8 apB
    have hd8 := k8 _ _ (e47 _ _ hd4) nd1.1 nd1.2.1 nd1.2.2
    have hU8 : DeedsP H8 us := fun z hz => kp8.tup (e47 _ _ (hU z hz))
    have B8 : BagAt H8 b l ns _ := bag_kept (B4.ext e47 (Nat.le_refl _)) k8 nb1 nl1
    have hg8 := kp8.tup (e47 _ _ (e4 _ _ hg3))
    refine ⟨_, rfl, rfl, fun T2 m2 H9 nm2 e9 h02 hc2 hR2 => ?_⟩
    refine lc_deeds (f := Deed.tint twoT) (ev_var rfl) (e9 _ _ hd8) (by omega) (fun _ => rfl) (fun z hz H' Q' e hQ => ?_) (fun d5 us2 H10 nd5 e10 hd5 hU10 hUm2 => ?_)
    · exact ⟨_, rfl, z.1, z.2, rfl, e _ _ (e9 _ _ (hU8 z hz)), (hnr z.2 (List.mem_map.mpr ⟨z, hz, rfl⟩)).1, fun p' H2' e' hp' => hQ p' H2' e' hp'⟩
    have e810 := e9.trans e10
    have hDs2 : us2.map (fun z => z.2) = (us.map fun z => z.2).map (Deed.tint twoT) := by
      rw [List.map_map]
      exact hUm2
    have hlen2 : us2.length = us.length := by
      have := congrArg List.length hUm2
      rwa [List.length_map, List.length_map] at this
    have g10 := g8.ext e810
    obtain ⟨⟨_, p10⟩, _, q10⟩ := (g8.ext e9).lsts
    refine ⟨h2, m2, d5, dx2, p2, q2, 0, us2, rfl, g10, (MdA.new hR2 h02 hc2).ext e10, hd5, Ne.symm (ne_of_none p10 nd5), Ne.symm (ne_of_none q10 nd5), hU10, fun z hz => ?_, ?_, by omega, fun m3 H11 k11 g11 M11 => ?_⟩
    · have hm : z.2 ∈ us2.map (fun z => z.2) := List.mem_map.mpr ⟨z, hz, rfl⟩
      rw [hDs2] at hm
      obtain ⟨D, hD, e⟩ := List.mem_map.mp hm
      rw [← e]
      exact (hnr D hD).2.good
    · rw [hDs2]
      exact cap12 (cap_tint hcp)
    have kp11 := g10.kp k11
    rw [hDs2, ← dbl_mdOf, hlen2] at g11
    have W0 : W14 K C H11 b l g h dx p q h2 dx2 p2 q2 m ns _ gw gx gy (0 + us.length) (mdOf (us.map fun z => z.2)) ((mdOf (us.map fun z => z.2)).lamps.map (·.1)) :=
      ⟨bag_kept (B8.ext e810 (Nat.le_refl _)) k11 nb2 nl2, kp11.tup (e810 _ _ hg8), G, (a8.ext e810).kept g10 k11 apA, g11, apB, apA, nb1, nl1, nb2, nl2, (M8.ext e810).keep kp11, sgl_of fun D hD => (hnr D hD).1, rfl⟩
    have hks : ((mdOf (us.map fun z => z.2)).lamps.map (·.1)).length ≤ 5 := by
      rw [List.length_map, lamps_len]
      exact hcp.1
    refine loop1 (K := K) (C := C) W0 (by omega) (by omega) fun m' M' v7 H12 W1 => ?_
    generalize (mdOf (us.map fun z => z.2)).lamps.map (·.1) = ks at W1 hks
    refine q_asgL (xs := []) (el_lst ea_nil (by simp)) fun al H13 nal e13 hal => ?_
    have W2 := W1.ext e13 (Nat.le_refl _)
    dsimp only [st14, List.set]
    refine loop2 (K := K) (C := C) W2 (by omega) hal (W1.new nal) fun v7 v9 v10 v11 ts H14 W3 hal3 htl hT => ?_
    clear W0 W2
    have hkl : M'.lamps.length ≤ 5 := by
      have := congrArg List.length W3.ks
      rw [List.length_map] at this
      omega
    refine ⟨_, rfl, _, rfl, _, rfl, b, l, g, m', ns, _, gw, gx, gy, M', 6, rfl, W3.bag, by omega, W3.g, W3.grid, W3.md, W3.s.okL, W3.s.nearM, by decide, fun lp ps zs' H15 nlp hlp hpl hPt B15 b15 => ⟨lp, rfl, ⟨_, sq_of hlp⟩, ?_⟩⟩
    have W4 := W3.but B15 b15
    have hal4 := b15 _ _ hal3 (W1.new nal).1.1
    have hT4 : TwsA K C H15 b al ts M' := fun i t num q1 q2 => (hT i t num q1 q2).keep (bag_kp W3.bag b15) b15 (.inl rfl)
    refine for_it (walk_list (K := K) (a := lp) (xs := ps.map V.ref)) (fun j σ' H' => Ex H15 H' ∧ ∃ v12 v13 v14 : Option V, σ' = st14 a b g d4 h h2 m' v7 (some (.ref al)) v9 v10 v11 v12 v13 v14) ⟨Ex.refl _, none, none, none, rfl⟩ (fun j σ' H' _ z => sq_of (z.1 _ _ hlp)) (fun j x σ' H' H'' hj z yy => ?_) (fun σ' H' z => ?_)
    · obtain ⟨rfl, hx⟩ := yy
      obtain ⟨e, v12, v13, v14, rfl⟩ := z
      rw [List.getElem?_map] at hx
      obtain ⟨sp, hsp, rfl⟩ := Option.map_eq_some_iff.mp hx
      obtain ⟨z, hz⟩ : ∃ z, zs'[j]? = some z := ⟨_, List.getElem?_eq_getElem (by rw [← hPt.1]; exact (List.getElem?_eq_some_iff.mp hsp).1)⟩
      obtain ⟨hspT, hnz⟩ := hPt.2 j sp z hsp hz
      refine ⟨sp, _, rfl, ex_t e hspT, rfl, _, _, rfl, _, _, rfl, rfl, ?_⟩
      dsimp only [st14, gName, List.set]
      have W5 := W4.ext e (Nat.le_refl _)
      have hT5 := hT4.ext e
      have hal5 := e _ _ hal4
      have far := InFar.near hnz.1 hnz.2
      have bdz : Bd 20 z.1 ∧ Bd 20 z.2 := ⟨bd20 hnz.1, bd20 hnz.2⟩
      obtain ⟨fs, hh, hf⟩ := W5.a.ins
      refine q_asgV ⟨_, rfl, h, dx, fs, rfl, hh, hf "light" (by decide +kernel), _, rfl, _, rfl, ⟨h, dx, p, q, _, stOf M', z.1, z.2, rfl, W5.a, W5.s.okF, far, bdz, fun t1 H16 nt1 e16 ht1 => ?_⟩⟩
      have ht1' : H16 t1 = some (.tup (tri (lightF (toF M') z))) := ht1
      have W6 := W5.ext e16 (Nat.le_refl _)
      have hT6 := hT5.ext e16
      have hal6 := e16 _ _ hal5
      have hnd : ((toF M').lamps.map (·.1)).Nodup := by
        rw [keys_toF]
        exact W6.md.ul.1.imp fun h => by omega
      have lenT : (toF M').lamps.length = M'.lamps.length := List.length_map ..
      have hat : ∀ (n : Nat) (t : Addr) (x : Tri), ts[n]? = some t → (M'.lamps.map fun x => litV (figsF (toF M')) z (lmF x.2))[n]? = some x → ∃ num l0, (M'.lamps.map (·.1))[n]? = some num ∧ (num, lmF l0) ∈ (toF M').lamps ∧ x = litV (figsF (toF M')) z (lmF l0) := fun n t x _ hx => by
        rw [List.getElem?_map] at hx
        obtain ⟨y, hy, rfl⟩ := Option.map_eq_some_iff.mp hx
        exact ⟨y.1, y.2, by rw [List.getElem?_map, hy] <;> rfl, mem_toF (List.mem_of_getElem? hy), rfl⟩
      have hxl : ts.length = (M'.lamps.map fun x => litV (figsF (toF M')) z (lmF x.2)).length := by rw [List.length_map, htl]
      dsimp only [List.set]
      refine q_when (b := false) (fun H17 e17 Q' q' => ?_) (fun ht => Bool.noConfusion ht) (fun _ H17 e17 => ?_)
      · dsimp only [tNot, tB, tCall, tCons]
        refine lc_tw (xs := M'.lamps.map fun x => litV (figsF (toF M')) z (lmF x.2)) (ev_var rfl) (e17 _ _ hal6) hxl (by omega) (fun _ _ => rfl) (fun n t x h1 h2' => ?_) (fun Dl us4 H18 nDl e18 hDl hL => ?_)
        · obtain ⟨num, l0, g1, g2, rfl⟩ := hat n t x h1 h2'
          obtain ⟨o, dxo, po, qo, w', dxw, pw, qw, t1', t2', t3', _⟩ := (hT6.ext e17) n t num h1 g1
          refine ⟨o, w', t1', fun H' Q'' e' hQ => ?_⟩
          have A := t2'.ext e'
          obtain ⟨fs2, hh2, hf2⟩ := A.ins
          refine ⟨_, rfl, o, dxo, fs2, rfl, hh2, hf2 "light" (by decide +kernel), _, rfl, _, rfl, ⟨o, dxo, po, qo, 900, oneS M' num M'.lamps.length, z.1, z.2, rfl, A, W6.s.okF.one, far, bdz, fun p' H2' np' e2' hp' => hQ p' H2' np' e2' ?_⟩⟩
          have eL := light_one (F := toF M') (z := z) hnd g2
          rw [lenT] at eL
          rw [← eL]
          exact hp'
        · refine ⟨Dl, us4, _, rfl, sq_of hDl, hL, by rw [List.length_map]; omega, fun t2 H19 nt2 e19 ht2 => ⟨_, rfl, ?_⟩⟩
          rw [← light_sum] at ht2
          exact ⟨.ref t2, .ref t1, rfl, sm_tupF (st_of ht2) (st_of ((e17.trans (e18.trans e19)) _ _ ht1')) rfl (by show 3 ≤ 1000; decide), fun H20 e20 => ⟨true, rfl, q' H20 ((e18.trans e19).trans e20)⟩⟩
      refine q_when (b := false) (fun H18 e18 Q' q' => ?_) (fun ht => Bool.noConfusion ht) (fun _ H18 e18 => ?_)
      · have e68 := e17.trans e18
        dsimp only [tNot, tB, tCall, tCons]
        refine lc_tw (xs := M'.lamps.map fun x => litV (figsF (toF M')) z (lmF x.2)) (ev_var rfl) (e68 _ _ hal6) hxl (by omega) (fun _ _ => rfl) (fun n t x h1 h2' => ?_) (fun Dl us4 H19 nDl e19 hDl hL => ?_)
        · obtain ⟨num, l0, g1, g2, rfl⟩ := hat n t x h1 h2'
          obtain ⟨o, dxo, po, qo, w', dxw, pw, qw, t1', t2', t3', _⟩ := (hT6.ext e68) n t num h1 g1
          refine ⟨o, w', t1', fun H' Q'' e' hQ => ?_⟩
          have A := t3'.ext e'
          obtain ⟨fs2, hh2, hf2⟩ := A.ins
          refine ⟨_, rfl, w', dxw, fs2, rfl, hh2, hf2 "light" (by decide +kernel), _, rfl, _, rfl, ⟨w', dxw, pw, qw, 900, twoS M' num M'.lamps.length, z.1, z.2, rfl, A, W6.s.okF.two, far, bdz, fun p' H2' np' e2' hp' => hQ p' H2' np' e2' ?_⟩⟩
          have eL := light_two (F := toF M') (z := z) hnd g2
          rw [lenT] at eL
          rw [← eL]
          exact hp'
        · refine ⟨Dl, us4, _, rfl, sq_of hDl, hL, by rw [List.length_map]; omega, fun t2 H20 nt2 e20 ht2 => ⟨_, rfl, ?_⟩⟩
          rw [← light_sum] at ht2
          exact ⟨.ref t2, .ref t1, rfl, sm_tupF (st_of ht2) (st_of ((e68.trans (e19.trans e20)) _ _ ht1')) rfl (by show 3 ≤ 1000; decide), fun H21 e21 => ⟨true, rfl, q' H21 ((e19.trans e20).trans e21)⟩⟩
      have e68 := e17.trans e18
      have W8 := W6.ext e68 (Nat.le_refl _)
      refine s_when (b := false) (fun H19 e19 Q' q' => ?_) (fun ht => Bool.noConfusion ht) (fun _ H19 e19 => ⟨e.trans (e16.trans (e68.trans e19)), _, _, _, rfl⟩)
      have W9 := W8.ext e19 (Nat.le_refl _)
      have hdue := (e68.trans e19) _ _ ht1'
      obtain ⟨fs3, hh3, hf3⟩ := W9.e.ins
      refine ⟨_, rfl, h2, dx2, fs3, rfl, hh3, hf3 "light" (by decide +kernel), _, rfl, _, rfl, ⟨h2, dx2, p2, q2, _, stOf (dblM M'), z.1, z.2, rfl, W9.e, W9.s.dbl.okF, far, bdz, fun t3 H20 nt3 e20 ht3 => ?_⟩⟩
      have ht3' : H20 t3 = some (.tup (tri (lightF (toF (dblM M')) z))) := ht3
      rw [light_dbl] at ht3'
      have due := e20 _ _ hdue
      have tb := sum3_tb (B := 1000000) (M'.lamps.map fun x => litV (figsF (toF M')) z (lmF x.2)) (fun t ht => by
        obtain ⟨x, hx, rfl⟩ := List.mem_map.mp ht
        exact lit_tb W9.s hx)
      rw [← light_sum, List.length_map] at tb
      generalize lightF (toF M') z = L at tb due ht3'
      obtain ⟨tb1, tb2, tb3⟩ := tb
      have mul : ∀ i : Int, i.natAbs ≤ M'.lamps.length * 1000000 → CMulW 2 i := fun i hi => mul64 (by decide) (Nat.lt_of_le_of_lt hi (by
        have := Nat.mul_le_mul_right 1000000 hkl
        omega))
      refine (eu_tuple (K := K) (xs := tri (twoT L)) (el_lcT' (K := K) (xs := tri L) (fun i => [V.int (2 * L.1), .int (2 * L.2.1), .int (2 * L.2.2)].getD i .non) (ev_var rfl) (st_of due) (by show 3 ≤ 40000; decide) (fun _ => rfl) (fun i x H21 e21 hx => ?_))) H20 (Ex.refl _) _ fun t4 H22 nt4 e22 h4 => ?_
      · match i, hx with
        | 0, hx => cases hx; exact ev_op ev_c (ev_var rfl) (rv_I (mul _ tb1))
        | 1, hx => cases hx; exact ev_op ev_c (ev_var rfl) (rv_I (mul _ tb2))
        | 2, hx => cases hx; exact ev_op ev_c (ev_var rfl) (rv_I (mul _ tb3))
        | i + 3, hx => cases hx
      · exact ⟨.ref t3, .ref t4, rfl, sm_tupF (st_of (e22 _ _ ht3')) (st_of h4) rfl (by show 3 ≤ 1000; decide), fun H23 e23 => ⟨true, rfl, q' H23 ((e20.trans e22).trans e23)⟩⟩
    · obtain ⟨e, v12, v13, v14, rfl⟩ := z
      show (tRet (tC (V.bl true))) { nx := fun x H' => Q V.non H', rt := Q } (st14 a b g d4 h h2 m' v7 (some (.ref al)) v9 v10 v11 v12 v13 v14) H'
      exact s_ret ev_c fun H3 _ => k H3
end
end Hs
namespace Hs
open PySem PySem.Spec PyProof.Rows L2 Evl
/-- the error BadPlace, as it stands -/
theorem BadPlace_ok {P : Program} {w : World} {K : PySem.W.Frag} {mg : Str → Option Value} {base : Heap} (hP : (P.main.file : Str) = "/claim/cut.py") (hPs : (P.main.scope.names.lookup ("super" : Str)).isSome = false) (gs : mg "super" = none) (gx : mg "BadPlace" = some (.ref (He.ga K "BadPlace")))
    (h : errB K dBadPlace = true) (e : fnC K dBadPlace.cls = dBadPlace.val) : ErrF P w K mg base 1 "BadPlace" (He.ga K "BadPlace") "badplace" := by
  obtain ⟨h1, h⟩ := He.ba h
  obtain ⟨h2, h⟩ := He.ba h
  obtain ⟨h3, h⟩ := He.ba h
  obtain ⟨h4, h⟩ := He.ba h
  obtain ⟨h5, h⟩ := He.ba h
  obtain ⟨h6, h⟩ := He.ba h
  obtain ⟨h7, h⟩ := He.ba h
  obtain ⟨h8, h9⟩ := He.ba h
  obtain ⟨c, cc, fd, I0, hf, hc⟩ := iniB_ok e h2
  have ox := oexB_ok h1
  have T : SupC P K mg (He.ga K "BadPlace") c cc "ValueError" "ValueError.__new__" "ValueError.__init__" (tailOf "ValueError") := ⟨ox, by rw [hP]; exact hf, hc, of_decide_eq_true h3, He.eqO_ok h4, of_decide_eq_true h5, He.eqO_ok h6, gs, hPs⟩
  have G : FnOk P w K mg base CX0 1 (iniA K "BadPlace") fd ["self", "why"] (spErr (He.ga K "BadPlace") "badplace") := err_ok (st := sBadPlace) basV T I0 (He.eqO_ok h9) rfl
    (NdefX.nscope_by (by decide +kernel)) rfl rfl rfl rfl rfl (fun _ => rfl) (fun _ => rfl) (fun _ => rfl) (fun _ => rfl) (fun _ => rfl)
  obtain ⟨oc, od, dV, kV, doc, pm, an, ct, osl, rfl, lk, hcd, hD⟩ := I0
  rcases hD with ⟨z, _⟩ | ⟨_, Ta, o, its, m, rfl, lT, oT, rT⟩
  · cases z
  · have hits : ∃ d, its = [d] := by
      have l := rT.length
      match its, l with
      | [d], _ => exact ⟨d, rfl⟩
    obtain ⟨d, rfl⟩ := hits
    have rd : RelV (.str "no such place") d := match rT with
      | .cons r _ => r
    refine ⟨⟨_, _, _, _, basV, ox⟩, gx, _, _, _, _, d, He.eqO_ok h7, of_decide_eq_true h8, G, rd, fun s us X hlen => ?_⟩
    have hl1 : us.length = 1 := by
      rw [List.length_append] at hlen
      exact Nat.succ.inj hlen
    match us, hl1 with
    | [u], _ =>
      refine BindsTo.of_looks fun M => ?_
      exact looks_items X lT oT (.of_pure rfl)
/-- the error BadLight, as it stands -/
theorem BadLight_ok {P : Program} {w : World} {K : PySem.W.Frag} {mg : Str → Option Value} {base : Heap} (hP : (P.main.file : Str) = "/claim/cut.py") (hPs : (P.main.scope.names.lookup ("super" : Str)).isSome = false) (gs : mg "super" = none) (gx : mg "BadLight" = some (.ref (He.ga K "BadLight")))
    (h : errB K dBadLight = true) (e : fnC K dBadLight.cls = dBadLight.val) : ErrF P w K mg base 1 "BadLight" (He.ga K "BadLight") "badlight" := by
  obtain ⟨h1, h⟩ := He.ba h
  obtain ⟨h2, h⟩ := He.ba h
  obtain ⟨h3, h⟩ := He.ba h
  obtain ⟨h4, h⟩ := He.ba h
  obtain ⟨h5, h⟩ := He.ba h
  obtain ⟨h6, h⟩ := He.ba h
  obtain ⟨h7, h⟩ := He.ba h
  obtain ⟨h8, h9⟩ := He.ba h
  obtain ⟨c, cc, fd, I0, hf, hc⟩ := iniB_ok e h2
  have ox := oexB_ok h1
  have T : SupC P K mg (He.ga K "BadLight") c cc "ValueError" "ValueError.__new__" "ValueError.__init__" (tailOf "ValueError") := ⟨ox, by rw [hP]; exact hf, hc, of_decide_eq_true h3, He.eqO_ok h4, of_decide_eq_true h5, He.eqO_ok h6, gs, hPs⟩
  have G : FnOk P w K mg base CX0 1 (iniA K "BadLight") fd ["self", "why"] (spErr (He.ga K "BadLight") "badlight") := err_ok (st := sBadLight) basV T I0 (He.eqO_ok h9) rfl
    (NdefX.nscope_by (by decide +kernel)) rfl rfl rfl rfl rfl (fun _ => rfl) (fun _ => rfl) (fun _ => rfl) (fun _ => rfl) (fun _ => rfl)
  obtain ⟨oc, od, dV, kV, doc, pm, an, ct, osl, rfl, lk, hcd, hD⟩ := I0
  rcases hD with ⟨z, _⟩ | ⟨_, Ta, o, its, m, rfl, lT, oT, rT⟩
  · cases z
  · have hits : ∃ d, its = [d] := by
      have l := rT.length
      match its, l with
      | [d], _ => exact ⟨d, rfl⟩
    obtain ⟨d, rfl⟩ := hits
    have rd : RelV (.str "no such light") d := match rT with
      | .cons r _ => r
    refine ⟨⟨_, _, _, _, basV, ox⟩, gx, _, _, _, _, d, He.eqO_ok h7, of_decide_eq_true h8, G, rd, fun s us X hlen => ?_⟩
    have hl1 : us.length = 1 := by
      rw [List.length_append] at hlen
      exact Nat.succ.inj hlen
    match us, hl1 with
    | [u], _ =>
      refine BindsTo.of_looks fun M => ?_
      exact looks_items X lT oT (.of_pure rfl)
/-- the error BadSift, as it stands -/
theorem BadSift_ok {P : Program} {w : World} {K : PySem.W.Frag} {mg : Str → Option Value} {base : Heap} (hP : (P.main.file : Str) = "/claim/cut.py") (hPs : (P.main.scope.names.lookup ("super" : Str)).isSome = false) (gs : mg "super" = none) (gx : mg "BadSift" = some (.ref (He.ga K "BadSift")))
    (h : errB K dBadSift = true) (e : fnC K dBadSift.cls = dBadSift.val) : ErrF P w K mg base 1 "BadSift" (He.ga K "BadSift") "badsift" := by
  obtain ⟨h1, h⟩ := He.ba h
  obtain ⟨h2, h⟩ := He.ba h
  obtain ⟨h3, h⟩ := He.ba h
  obtain ⟨h4, h⟩ := He.ba h
  obtain ⟨h5, h⟩ := He.ba h
  obtain ⟨h6, h⟩ := He.ba h
  obtain ⟨h7, h⟩ := He.ba h
  obtain ⟨h8, h9⟩ := He.ba h
  obtain ⟨c, cc, fd, I0, hf, hc⟩ := iniB_ok e h2
  have ox := oexB_ok h1
  have T : SupC P K mg (He.ga K "BadSift") c cc "ValueError" "ValueError.__new__" "ValueError.__init__" (tailOf "ValueError") := ⟨ox, by rw [hP]; exact hf, hc, of_decide_eq_true h3, He.eqO_ok h4, of_decide_eq_true h5, He.eqO_ok h6, gs, hPs⟩
  have G : FnOk P w K mg base CX0 1 (iniA K "BadSift") fd ["self", "why"] (spErr (He.ga K "BadSift") "badsift") := err_ok (st := sBadSift) basV T I0 (He.eqO_ok h9) rfl
    (NdefX.nscope_by (by decide +kernel)) rfl rfl rfl rfl rfl (fun _ => rfl) (fun _ => rfl) (fun _ => rfl) (fun _ => rfl) (fun _ => rfl)
  obtain ⟨oc, od, dV, kV, doc, pm, an, ct, osl, rfl, lk, hcd, hD⟩ := I0
  rcases hD with ⟨z, _⟩ | ⟨_, Ta, o, its, m, rfl, lT, oT, rT⟩
  · cases z
  · have hits : ∃ d, its = [d] := by
      have l := rT.length
      match its, l with
      | [d], _ => exact ⟨d, rfl⟩
    obtain ⟨d, rfl⟩ := hits
    have rd : RelV (.str "no such sift") d := match rT with
      | .cons r _ => r
    refine ⟨⟨_, _, _, _, basV, ox⟩, gx, _, _, _, _, d, He.eqO_ok h7, of_decide_eq_true h8, G, rd, fun s us X hlen => ?_⟩
    have hl1 : us.length = 1 := by
      rw [List.length_append] at hlen
      exact Nat.succ.inj hlen
    match us, hl1 with
    | [u], _ =>
      refine BindsTo.of_looks fun M => ?_
      exact looks_items X lT oT (.of_pure rfl)
/-- the error BadBlock, as it stands -/
theorem BadBlock_ok {P : Program} {w : World} {K : PySem.W.Frag} {mg : Str → Option Value} {base : Heap} (hP : (P.main.file : Str) = "/claim/cut.py") (hPs : (P.main.scope.names.lookup ("super" : Str)).isSome = false) (gs : mg "super" = none) (gx : mg "BadBlock" = some (.ref (He.ga K "BadBlock")))
    (h : errB K dBadBlock = true) (e : fnC K dBadBlock.cls = dBadBlock.val) : ErrF P w K mg base 1 "BadBlock" (He.ga K "BadBlock") "badblock" := by
  obtain ⟨h1, h⟩ := He.ba h
  obtain ⟨h2, h⟩ := He.ba h
  obtain ⟨h3, h⟩ := He.ba h
  obtain ⟨h4, h⟩ := He.ba h
  obtain ⟨h5, h⟩ := He.ba h
  obtain ⟨h6, h⟩ := He.ba h
  obtain ⟨h7, h⟩ := He.ba h
  obtain ⟨h8, h9⟩ := He.ba h
  obtain ⟨c, cc, fd, I0, hf, hc⟩ := iniB_ok e h2
  have ox := oexB_ok h1
  have T : SupC P K mg (He.ga K "BadBlock") c cc "ValueError" "ValueError.__new__" "ValueError.__init__" (tailOf "ValueError") := ⟨ox, by rw [hP]; exact hf, hc, of_decide_eq_true h3, He.eqO_ok h4, of_decide_eq_true h5, He.eqO_ok h6, gs, hPs⟩
  have G : FnOk P w K mg base CX0 1 (iniA K "BadBlock") fd ["self", "why"] (spErr (He.ga K "BadBlock") "badblock") := err_ok (st := sBadBlock) basV T I0 (He.eqO_ok h9) rfl
    (NdefX.nscope_by (by decide +kernel)) rfl rfl rfl rfl rfl (fun _ => rfl) (fun _ => rfl) (fun _ => rfl) (fun _ => rfl) (fun _ => rfl)
  obtain ⟨oc, od, dV, kV, doc, pm, an, ct, osl, rfl, lk, hcd, hD⟩ := I0
  rcases hD with ⟨z, _⟩ | ⟨_, Ta, o, its, m, rfl, lT, oT, rT⟩
  · cases z
  · have hits : ∃ d, its = [d] := by
      have l := rT.length
      match its, l with
      | [d], _ => exact ⟨d, rfl⟩
    obtain ⟨d, rfl⟩ := hits
    have rd : RelV (.str "no such block") d := match rT with
      | .cons r _ => r
    refine ⟨⟨_, _, _, _, basV, ox⟩, gx, _, _, _, _, d, He.eqO_ok h7, of_decide_eq_true h8, G, rd, fun s us X hlen => ?_⟩
    have hl1 : us.length = 1 := by
      rw [List.length_append] at hlen
      exact Nat.succ.inj hlen
    match us, hl1 with
    | [u], _ =>
      refine BindsTo.of_looks fun M => ?_
      exact looks_items X lT oT (.of_pure rfl)
/-- the error BadPiece, as it stands -/
theorem BadPiece_ok {P : Program} {w : World} {K : PySem.W.Frag} {mg : Str → Option Value} {base : Heap} (hP : (P.main.file : Str) = "/claim/cut.py") (hPs : (P.main.scope.names.lookup ("super" : Str)).isSome = false) (gs : mg "super" = none) (gx : mg "BadPiece" = some (.ref (He.ga K "BadPiece")))
    (h : errB K dBadPiece = true) (e : fnC K dBadPiece.cls = dBadPiece.val) : ErrF P w K mg base 1 "BadPiece" (He.ga K "BadPiece") "badpiece" := by
  obtain ⟨h1, h⟩ := He.ba h
  obtain ⟨h2, h⟩ := He.ba h
  obtain ⟨h3, h⟩ := He.ba h
  obtain ⟨h4, h⟩ := He.ba h
  obtain ⟨h5, h⟩ := He.ba h
  obtain ⟨h6, h⟩ := He.ba h
  obtain ⟨h7, h⟩ := He.ba h
  obtain ⟨h8, h9⟩ := He.ba h
  obtain ⟨c, cc, fd, I0, hf, hc⟩ := iniB_ok e h2
  have ox := oexB_ok h1
  have T : SupC P K mg (He.ga K "BadPiece") c cc "ValueError" "ValueError.__new__" "ValueError.__init__" (tailOf "ValueError") := ⟨ox, by rw [hP]; exact hf, hc, of_decide_eq_true h3, He.eqO_ok h4, of_decide_eq_true h5, He.eqO_ok h6, gs, hPs⟩
  have G : FnOk P w K mg base CX0 1 (iniA K "BadPiece") fd ["self", "why"] (spErr (He.ga K "BadPiece") "badpiece") := err_ok (st := sBadPiece) basV T I0 (He.eqO_ok h9) rfl
    (NdefX.nscope_by (by decide +kernel)) rfl rfl rfl rfl rfl (fun _ => rfl) (fun _ => rfl) (fun _ => rfl) (fun _ => rfl) (fun _ => rfl)
  obtain ⟨oc, od, dV, kV, doc, pm, an, ct, osl, rfl, lk, hcd, hD⟩ := I0
  rcases hD with ⟨z, _⟩ | ⟨_, Ta, o, its, m, rfl, lT, oT, rT⟩
  · cases z
  · have hits : ∃ d, its = [d] := by
      have l := rT.length
      match its, l with
      | [d], _ => exact ⟨d, rfl⟩
    obtain ⟨d, rfl⟩ := hits
    have rd : RelV (.str "no such piece") d := match rT with
      | .cons r _ => r
    refine ⟨⟨_, _, _, _, basV, ox⟩, gx, _, _, _, _, d, He.eqO_ok h7, of_decide_eq_true h8, G, rd, fun s us X hlen => ?_⟩
    have hl1 : us.length = 1 := by
      rw [List.length_append] at hlen
      exact Nat.succ.inj hlen
    match us, hl1 with
    | [u], _ =>
      refine BindsTo.of_looks fun M => ?_
      exact looks_items X lT oT (.of_pure rfl)
/-- the error BadSetting, as it stands -/
theorem BadSetting_ok {P : Program} {w : World} {K : PySem.W.Frag} {mg : Str → Option Value} {base : Heap} (hP : (P.main.file : Str) = "/claim/cut.py") (hPs : (P.main.scope.names.lookup ("super" : Str)).isSome = false) (gs : mg "super" = none) (gx : mg "BadSetting" = some (.ref (He.ga K "BadSetting")))
    (h : errB K dBadSetting = true) (e : fnC K dBadSetting.cls = dBadSetting.val) : ErrF P w K mg base 1 "BadSetting" (He.ga K "BadSetting") "badsetting" := by
  obtain ⟨h1, h⟩ := He.ba h
  obtain ⟨h2, h⟩ := He.ba h
  obtain ⟨h3, h⟩ := He.ba h
  obtain ⟨h4, h⟩ := He.ba h
  obtain ⟨h5, h⟩ := He.ba h
  obtain ⟨h6, h⟩ := He.ba h
  obtain ⟨h7, h⟩ := He.ba h
  obtain ⟨h8, h9⟩ := He.ba h
  obtain ⟨c, cc, fd, I0, hf, hc⟩ := iniB_ok e h2
  have ox := oexB_ok h1
  have T : SupC P K mg (He.ga K "BadSetting") c cc "ValueError" "ValueError.__new__" "ValueError.__init__" (tailOf "ValueError") := ⟨ox, by rw [hP]; exact hf, hc, of_decide_eq_true h3, He.eqO_ok h4, of_decide_eq_true h5, He.eqO_ok h6, gs, hPs⟩
  have G : FnOk P w K mg base CX0 1 (iniA K "BadSetting") fd ["self", "why"] (spErr (He.ga K "BadSetting") "badsetting") := err_ok (st := sBadSetting) basV T I0 (He.eqO_ok h9) rfl
    (NdefX.nscope_by (by decide +kernel)) rfl rfl rfl rfl rfl (fun _ => rfl) (fun _ => rfl) (fun _ => rfl) (fun _ => rfl) (fun _ => rfl)
  obtain ⟨oc, od, dV, kV, doc, pm, an, ct, osl, rfl, lk, hcd, hD⟩ := I0
  rcases hD with ⟨z, _⟩ | ⟨_, Ta, o, its, m, rfl, lT, oT, rT⟩
  · cases z
  · have hits : ∃ d, its = [d] := by
      have l := rT.length
      match its, l with
      | [d], _ => exact ⟨d, rfl⟩
    obtain ⟨d, rfl⟩ := hits
    have rd : RelV (.str "no such setting") d := match rT with
      | .cons r _ => r
    refine ⟨⟨_, _, _, _, basV, ox⟩, gx, _, _, _, _, d, He.eqO_ok h7, of_decide_eq_true h8, G, rd, fun s us X hlen => ?_⟩
    have hl1 : us.length = 1 := by
      rw [List.length_append] at hlen
      exact Nat.succ.inj hlen
    match us, hl1 with
    | [u], _ =>
      refine BindsTo.of_looks fun M => ?_
      exact looks_items X lT oT (.of_pure rfl)
/-- the error Unknown, as it stands -/
theorem Unknown_ok {P : Program} {w : World} {K : PySem.W.Frag} {mg : Str → Option Value} {base : Heap} (hP : (P.main.file : Str) = "/claim/cut.py") (hPs : (P.main.scope.names.lookup ("super" : Str)).isSome = false) (gs : mg "super" = none) (gx : mg "Unknown" = some (.ref (He.ga K "Unknown")))
    (h : errB K dUnknown = true) (e : fnC K dUnknown.cls = dUnknown.val) : ErrF P w K mg base 1 "Unknown" (He.ga K "Unknown") "unknown" := by
  obtain ⟨h1, h⟩ := He.ba h
  obtain ⟨h2, h⟩ := He.ba h
  obtain ⟨h3, h⟩ := He.ba h
  obtain ⟨h4, h⟩ := He.ba h
  obtain ⟨h5, h⟩ := He.ba h
  obtain ⟨h6, h⟩ := He.ba h
  obtain ⟨h7, h⟩ := He.ba h
  obtain ⟨h8, h9⟩ := He.ba h
  obtain ⟨c, cc, fd, I0, hf, hc⟩ := iniB_ok e h2
  have ox := oexB_ok h1
  have T : SupC P K mg (He.ga K "Unknown") c cc "ValueError" "ValueError.__new__" "ValueError.__init__" (tailOf "ValueError") := ⟨ox, by rw [hP]; exact hf, hc, of_decide_eq_true h3, He.eqO_ok h4, of_decide_eq_true h5, He.eqO_ok h6, gs, hPs⟩
  have G : FnOk P w K mg base CX0 1 (iniA K "Unknown") fd ["self", "why"] (spErr (He.ga K "Unknown") "unknown") := err_ok (st := sUnknown) basV T I0 (He.eqO_ok h9) rfl
    (NdefX.nscope_by (by decide +kernel)) rfl rfl rfl rfl rfl (fun _ => rfl) (fun _ => rfl) (fun _ => rfl) (fun _ => rfl) (fun _ => rfl)
  obtain ⟨oc, od, dV, kV, doc, pm, an, ct, osl, rfl, lk, hcd, hD⟩ := I0
  rcases hD with ⟨z, _⟩ | ⟨_, Ta, o, its, m, rfl, lT, oT, rT⟩
  · cases z
  · have hits : ∃ d, its = [d] := by
      have l := rT.length
      match its, l with
      | [d], _ => exact ⟨d, rfl⟩
    obtain ⟨d, rfl⟩ := hits
    have rd : RelV (.str "an open lamp stands") d := match rT with
      | .cons r _ => r
    refine ⟨⟨_, _, _, _, basV, ox⟩, gx, _, _, _, _, d, He.eqO_ok h7, of_decide_eq_true h8, G, rd, fun s us X hlen => ?_⟩
    have hl1 : us.length = 1 := by
      rw [List.length_append] at hlen
      exact Nat.succ.inj hlen
    match us, hl1 with
    | [u], _ =>
      refine BindsTo.of_looks fun M => ?_
      exact looks_items X lT oT (.of_pure rfl)
/-- the error Full, as it stands -/
theorem Full_ok {P : Program} {w : World} {K : PySem.W.Frag} {mg : Str → Option Value} {base : Heap} (hP : (P.main.file : Str) = "/claim/cut.py") (hPs : (P.main.scope.names.lookup ("super" : Str)).isSome = false) (gs : mg "super" = none) (gx : mg "Full" = some (.ref (He.ga K "Full")))
    (h : errB K dFull = true) (e : fnC K dFull.cls = dFull.val) : ErrF P w K mg base 1 "Full" (He.ga K "Full") "full" := by
  obtain ⟨h1, h⟩ := He.ba h
  obtain ⟨h2, h⟩ := He.ba h
  obtain ⟨h3, h⟩ := He.ba h
  obtain ⟨h4, h⟩ := He.ba h
  obtain ⟨h5, h⟩ := He.ba h
  obtain ⟨h6, h⟩ := He.ba h
  obtain ⟨h7, h⟩ := He.ba h
  obtain ⟨h8, h9⟩ := He.ba h
  obtain ⟨c, cc, fd, I0, hf, hc⟩ := iniB_ok e h2
  have ox := oexB_ok h1
  have T : SupC P K mg (He.ga K "Full") c cc "RuntimeError" "RuntimeError.__new__" "RuntimeError.__init__" (tailOf "RuntimeError") := ⟨ox, by rw [hP]; exact hf, hc, of_decide_eq_true h3, He.eqO_ok h4, of_decide_eq_true h5, He.eqO_ok h6, gs, hPs⟩
  have G : FnOk P w K mg base CX0 1 (iniA K "Full") fd ["self", "why"] (spErr (He.ga K "Full") "full") := err_ok (st := sFull) basR T I0 (He.eqO_ok h9) rfl
    (NdefX.nscope_by (by decide +kernel)) rfl rfl rfl rfl rfl (fun _ => rfl) (fun _ => rfl) (fun _ => rfl) (fun _ => rfl) (fun _ => rfl)
  obtain ⟨oc, od, dV, kV, doc, pm, an, ct, osl, rfl, lk, hcd, hD⟩ := I0
  rcases hD with ⟨z, _⟩ | ⟨_, Ta, o, its, m, rfl, lT, oT, rT⟩
  · cases z
  · have hits : ∃ d, its = [d] := by
      have l := rT.length
      match its, l with
      | [d], _ => exact ⟨d, rfl⟩
    obtain ⟨d, rfl⟩ := hits
    have rd : RelV (.str "no more have room") d := match rT with
      | .cons r _ => r
    refine ⟨⟨_, _, _, _, basR, ox⟩, gx, _, _, _, _, d, He.eqO_ok h7, of_decide_eq_true h8, G, rd, fun s us X hlen => ?_⟩
    have hl1 : us.length = 1 := by
      rw [List.length_append] at hlen
      exact Nat.succ.inj hlen
    match us, hl1 with
    | [u], _ =>
      refine BindsTo.of_looks fun M => ?_
      exact looks_items X lT oT (.of_pure rfl)
theorem facts {P : Program} {w : World} {K : PySem.W.Frag} {h : Heap} {mg : Str → Option Value} {f : Addr} (hP : (P.main.file : Str) = "/claim/cut.py") (hPs : (P.main.scope.names.lookup ("super" : Str)).isSome = false) (X : K.In h) (G : h.Ns mainGlobals mg) (hfa : mg ("law" : Str) = some (.ref f)) (c : SaysY fa fn tb [] [dBadPlace, dBadLight, dBadSift, dBadBlock, dBadPiece, dBadSetting, dUnknown, dFull] exB w h K) :
    ∃ (fd : FuncData), (∀ (s : Shared) (v : Value), BindsTo s fd ⟨[v], []⟩ [("_law_script", v)]) ∧ ∀ base : Heap, FnOk P w K mg base CX0 10 f fd ["_law_script"] (spLaw K) := by
  have cd := c.x.t.d
  obtain ⟨fd_lean, F_lean⟩ : ∃ fd, FnP K "lean" sLean (He.ga K "lean") fd := cd.def_ 0 (d := dsLean) rfl
  have m_lean := He.glo_ok X G (cd.fact 0 (f := .glo "lean") rfl)
  obtain ⟨fd_side, F_side⟩ : ∃ fd, FnP K "side" sSide (He.ga K "side") fd := cd.def_ 1 (d := dsSide) rfl
  have m_side := He.glo_ok X G (cd.fact 1 (f := .glo "side") rfl)
  obtain ⟨fd_box_around, F_box_around⟩ : ∃ fd, FnP K "box_around" sBox (He.ga K "box_around") fd := cd.def_ 2 (d := dsBox) rfl
  have m_box_around := He.glo_ok X G (cd.fact 2 (f := .glo "box_around") rfl)
  obtain ⟨fd_blocks_meet, F_blocks_meet⟩ : ∃ fd, FnP K "blocks_meet" sBlm (He.ga K "blocks_meet") fd := cd.def_ 3 (d := dsBlm) rfl
  have m_blocks_meet := He.glo_ok X G (cd.fact 3 (f := .glo "blocks_meet") rfl)
  obtain ⟨fd_beside, F_beside⟩ : ∃ fd, FnP K "beside" sBes (He.ga K "beside") fd := cd.def_ 4 (d := dsBes) rfl
  have m_beside := He.glo_ok X G (cd.fact 4 (f := .glo "beside") rfl)
  obtain ⟨fd_pieces_meet, F_pieces_meet⟩ : ∃ fd, FnP K "pieces_meet" sPm (He.ga K "pieces_meet") fd := cd.def_ 5 (d := dsPm) rfl
  have m_pieces_meet := He.glo_ok X G (cd.fact 5 (f := .glo "pieces_meet") rfl)
  obtain ⟨fd_block_meets, F_block_meets⟩ : ∃ fd, FnP K "block_meets" sBm (He.ga K "block_meets") fd := cd.def_ 6 (d := dsBm) rfl
  have m_block_meets := He.glo_ok X G (cd.fact 6 (f := .glo "block_meets") rfl)
  obtain ⟨fd_check_sift, F_check_sift⟩ : ∃ fd, FnP K "check_sift" sCheck (He.ga K "check_sift") fd := cd.def_ 7 (d := dsCheck) rfl
  have m_check_sift := He.glo_ok X G (cd.fact 7 (f := .glo "check_sift") rfl)
  obtain ⟨fd_sifted, F_sifted⟩ : ∃ fd, FnP K "sifted" sSifted (He.ga K "sifted") fd := cd.def_ 8 (d := dsSifted) rfl
  have m_sifted := He.glo_ok X G (cd.fact 8 (f := .glo "sifted") rfl)
  obtain ⟨fd_both_sifts, F_both_sifts⟩ : ∃ fd, FnP K "both_sifts" sBoth (He.ga K "both_sifts") fd := cd.def_ 9 (d := dsBoth) rfl
  have m_both_sifts := He.glo_ok X G (cd.fact 9 (f := .glo "both_sifts") rfl)
  obtain ⟨fd_summed, F_summed⟩ : ∃ fd, FnP K "summed" sSummed (He.ga K "summed") fd := cd.def_ 10 (d := dsSummed) rfl
  have m_summed := He.glo_ok X G (cd.fact 10 (f := .glo "summed") rfl)
  obtain ⟨fd_figures_of, F_figures_of⟩ : ∃ fd, FnP K "figures_of" sFigs (He.ga K "figures_of") fd := cd.def_ 11 (d := dsFigs) rfl
  have m_figures_of := He.glo_ok X G (cd.fact 11 (f := .glo "figures_of") rfl)
  obtain ⟨fd_let_by, F_let_by⟩ : ∃ fd, FnP K "let_by" sLetBy (He.ga K "let_by") fd := cd.def_ 12 (d := dsLetBy) rfl
  have m_let_by := He.glo_ok X G (cd.fact 12 (f := .glo "let_by") rfl)
  obtain ⟨fd_let_by_all, F_let_by_all⟩ : ∃ fd, FnP K "let_by_all" sLetAll (He.ga K "let_by_all") fd := cd.def_ 13 (d := dsLetAll) rfl
  have m_let_by_all := He.glo_ok X G (cd.fact 13 (f := .glo "let_by_all") rfl)
  obtain ⟨fd_brought, F_brought⟩ : ∃ fd, FnP K "brought" sBrought (He.ga K "brought") fd := cd.def_ 14 (d := dsBrought) rfl
  have m_brought := He.glo_ok X G (cd.fact 14 (f := .glo "brought") rfl)
  obtain ⟨fd_choice_lights, F_choice_lights⟩ : ∃ fd, FnP K "choice_lights" sChoice (He.ga K "choice_lights") fd := cd.def_ 15 (d := dsChoice) rfl
  have m_choice_lights := He.glo_ok X G (cd.fact 15 (f := .glo "choice_lights") rfl)
  obtain ⟨fd_picked_light, F_picked_light⟩ : ∃ fd, FnP K "picked_light" sPicked (He.ga K "picked_light") fd := cd.def_ 16 (d := dsPicked) rfl
  have m_picked_light := He.glo_ok X G (cd.fact 16 (f := .glo "picked_light") rfl)
  obtain ⟨fd_check_place, F_check_place⟩ : ∃ fd, FnP K "check_place" sPlace (He.ga K "check_place") fd := cd.def_ 17 (d := dsPlace) rfl
  have m_check_place := He.glo_ok X G (cd.fact 17 (f := .glo "check_place") rfl)
  obtain ⟨fd_check_light, F_check_light⟩ : ∃ fd, FnP K "check_light" sLightC (He.ga K "check_light") fd := cd.def_ 18 (d := dsLightC) rfl
  have m_check_light := He.glo_ok X G (cd.fact 18 (f := .glo "check_light") rfl)
  obtain ⟨fd_row_number, F_row_number⟩ : ∃ fd, FnP K "row_number" sNum (He.ga K "row_number") fd := cd.def_ 19 (d := dsNum) rfl
  have m_row_number := He.glo_ok X G (cd.fact 19 (f := .glo "row_number") rfl)
  obtain ⟨fd_counts_of, F_counts_of⟩ : ∃ fd, FnP K "counts_of" sCounts (He.ga K "counts_of") fd := cd.def_ 20 (d := dsCounts) rfl
  have m_counts_of := He.glo_ok X G (cd.fact 20 (f := .glo "counts_of") rfl)
  obtain ⟨fd_checked_setting, F_checked_setting⟩ : ∃ fd, FnP K "checked_setting" sChecked (He.ga K "checked_setting") fd := cd.def_ 21 (d := dsChecked) rfl
  have m_checked_setting := He.glo_ok X G (cd.fact 21 (f := .glo "checked_setting") rfl)
  obtain ⟨fd_picks_of, F_picks_of⟩ : ∃ fd, FnP K "picks_of" sPicks (He.ga K "picks_of") fd := cd.def_ 22 (d := dsPicks) rfl
  have m_picks_of := He.glo_ok X G (cd.fact 22 (f := .glo "picks_of") rfl)
  obtain ⟨fd_bare_floor, F_bare_floor⟩ : ∃ fd, FnP K "bare_floor" sBare (He.ga K "bare_floor") fd := cd.def_ 23 (d := dsBare) rfl
  have m_bare_floor := He.glo_ok X G (cd.fact 23 (f := .glo "bare_floor") rfl)
  obtain ⟨fd_first_state, F_first_state⟩ : ∃ fd, FnP K "first_state" sFirst (He.ga K "first_state") fd := cd.def_ 24 (d := dsFirst) rfl
  have m_first_state := He.glo_ok X G (cd.fact 24 (f := .glo "first_state") rfl)
  obtain ⟨fd_with_thing, F_with_thing⟩ : ∃ fd, FnP K "with_thing" sWith (He.ga K "with_thing") fd := cd.def_ 25 (d := dsWith) rfl
  have m_with_thing := He.glo_ok X G (cd.fact 25 (f := .glo "with_thing") rfl)
  obtain ⟨fd_check_room, F_check_room⟩ : ∃ fd, FnP K "check_room" sRoom (He.ga K "check_room") fd := cd.def_ 26 (d := dsRoom) rfl
  have m_check_room := He.glo_ok X G (cd.fact 26 (f := .glo "check_room") rfl)
  obtain ⟨fd_put, F_put⟩ : ∃ fd, FnP K "put" sPut (He.ga K "put") fd := cd.def_ 27 (d := dsPut) rfl
  have m_put := He.glo_ok X G (cd.fact 27 (f := .glo "put") rfl)
  obtain ⟨fd_thing_of, F_thing_of⟩ : ∃ fd, FnP K "thing_of" sThing (He.ga K "thing_of") fd := cd.def_ 28 (d := dsThing) rfl
  have m_thing_of := He.glo_ok X G (cd.fact 28 (f := .glo "thing_of") rfl)
  obtain ⟨fd_without_thing, F_without_thing⟩ : ∃ fd, FnP K "without_thing" sWithout (He.ga K "without_thing") fd := cd.def_ 29 (d := dsWithout) rfl
  have m_without_thing := He.glo_ok X G (cd.fact 29 (f := .glo "without_thing") rfl)
  obtain ⟨fd_do_lamp, F_do_lamp⟩ : ∃ fd, FnP K "do_lamp" sDoLamp (He.ga K "do_lamp") fd := cd.def_ 30 (d := dsDoLamp) rfl
  have m_do_lamp := He.glo_ok X G (cd.fact 30 (f := .glo "do_lamp") rfl)
  obtain ⟨fd_do_post, F_do_post⟩ : ∃ fd, FnP K "do_post" sDoPost (He.ga K "do_post") fd := cd.def_ 31 (d := dsDoPost) rfl
  have m_do_post := He.glo_ok X G (cd.fact 31 (f := .glo "do_post") rfl)
  obtain ⟨fd_do_pane, F_do_pane⟩ : ∃ fd, FnP K "do_pane" sDoPane (He.ga K "do_pane") fd := cd.def_ 32 (d := dsDoPane) rfl
  have m_do_pane := He.glo_ok X G (cd.fact 32 (f := .glo "do_pane") rfl)
  obtain ⟨fd_do_switch, F_do_switch⟩ : ∃ fd, FnP K "do_switch" sSwitch (He.ga K "do_switch") fd := cd.def_ 33 (d := dsSwitch) rfl
  have m_do_switch := He.glo_ok X G (cd.fact 33 (f := .glo "do_switch") rfl)
  obtain ⟨fd_do_drop, F_do_drop⟩ : ∃ fd, FnP K "do_drop" sDrop (He.ga K "do_drop") fd := cd.def_ 34 (d := dsDrop) rfl
  have m_do_drop := He.glo_ok X G (cd.fact 34 (f := .glo "do_drop") rfl)
  obtain ⟨fd_applied, F_applied⟩ : ∃ fd, FnP K "applied" sApplied (He.ga K "applied") fd := cd.def_ 35 (d := dsApplied) rfl
  have m_applied := He.glo_ok X G (cd.fact 35 (f := .glo "applied") rfl)
  obtain ⟨fd__law_same, F__law_same⟩ : ∃ fd, FnP K "_law_same" sSame (He.ga K "_law_same") fd := cd.def_ 36 (d := dsSame) rfl
  have m__law_same := He.glo_ok X G (cd.fact 36 (f := .glo "_law_same") rfl)
  obtain ⟨fd__law_pull, F__law_pull⟩ : ∃ fd, FnP K "_law_pull" sPull (He.ga K "_law_pull") fd := cd.def_ 37 (d := dsPull) rfl
  have m__law_pull := He.glo_ok X G (cd.fact 37 (f := .glo "_law_pull") rfl)
  obtain ⟨fd__law_bag, F__law_bag⟩ : ∃ fd, FnP K "_law_bag" sBag (He.ga K "_law_bag") fd := cd.def_ 38 (d := dsBag) rfl
  have m__law_bag := He.glo_ok X G (cd.fact 38 (f := .glo "_law_bag") rfl)
  obtain ⟨fd__law_corners, F__law_corners⟩ : ∃ fd, FnP K "_law_corners" sCorn (He.ga K "_law_corners") fd := cd.def_ 39 (d := dsCorn) rfl
  have m__law_corners := He.glo_ok X G (cd.fact 39 (f := .glo "_law_corners") rfl)
  obtain ⟨fd__law_sum, F__law_sum⟩ : ∃ fd, FnP K "_law_sum" sSum (He.ga K "_law_sum") fd := cd.def_ 40 (d := dsSum) rfl
  have m__law_sum := He.glo_ok X G (cd.fact 40 (f := .glo "_law_sum") rfl)
  obtain ⟨fd__law_grid, F__law_grid⟩ : ∃ fd, FnP K "_law_grid" sGrid (He.ga K "_law_grid") fd := cd.def_ 41 (d := dsGrid) rfl
  have m__law_grid := He.glo_ok X G (cd.fact 41 (f := .glo "_law_grid") rfl)
  obtain ⟨fd__law_spot, F__law_spot⟩ : ∃ fd, FnP K "_law_spot" sSpot (He.ga K "_law_spot") fd := cd.def_ 42 (d := dsSpot) rfl
  have m__law_spot := He.glo_ok X G (cd.fact 42 (f := .glo "_law_spot") rfl)
  obtain ⟨fd__law_one, F__law_one⟩ : ∃ fd, FnP K "_law_one" sOne (He.ga K "_law_one") fd := cd.def_ 43 (d := dsOne) rfl
  have m__law_one := He.glo_ok X G (cd.fact 43 (f := .glo "_law_one") rfl)
  obtain ⟨fd__law_mixed, F__law_mixed⟩ : ∃ fd, FnP K "_law_mixed" sMixed (He.ga K "_law_mixed") fd := cd.def_ 44 (d := dsMixed) rfl
  have m__law_mixed := He.glo_ok X G (cd.fact 44 (f := .glo "_law_mixed") rfl)
  obtain ⟨fd__law_other_spot, F__law_other_spot⟩ : ∃ fd, FnP K "_law_other_spot" sOther (He.ga K "_law_other_spot") fd := cd.def_ 45 (d := dsOther) rfl
  have m__law_other_spot := He.glo_ok X G (cd.fact 45 (f := .glo "_law_other_spot") rfl)
  obtain ⟨fd__law_tint, F__law_tint⟩ : ∃ fd, FnP K "_law_tint" sTint (He.ga K "_law_tint") fd := cd.def_ 46 (d := dsTint) rfl
  have m__law_tint := He.glo_ok X G (cd.fact 46 (f := .glo "_law_tint") rfl)
  obtain ⟨fd__law_block, F__law_block⟩ : ∃ fd, FnP K "_law_block" sBlock (He.ga K "_law_block") fd := cd.def_ 47 (d := dsBlock) rfl
  have m__law_block := He.glo_ok X G (cd.fact 47 (f := .glo "_law_block") rfl)
  obtain ⟨fd__law_letters, F__law_letters⟩ : ∃ fd, FnP K "_law_letters" sLetters (He.ga K "_law_letters") fd := cd.def_ 48 (d := dsLetters) rfl
  have m__law_letters := He.glo_ok X G (cd.fact 48 (f := .glo "_law_letters") rfl)
  obtain ⟨fd__law_thing_deed, F__law_thing_deed⟩ : ∃ fd, FnP K "_law_thing_deed" sThingD (He.ga K "_law_thing_deed") fd := cd.def_ 49 (d := dsThingD) rfl
  have m__law_thing_deed := He.glo_ok X G (cd.fact 49 (f := .glo "_law_thing_deed") rfl)
  obtain ⟨fd__law_new, F__law_new⟩ : ∃ fd, FnP K "_law_new" sNewM (He.ga K "_law_new") fd := cd.def_ 50 (d := dsNewM) rfl
  have m__law_new := He.glo_ok X G (cd.fact 50 (f := .glo "_law_new") rfl)
  obtain ⟨fd__law_copy, F__law_copy⟩ : ∃ fd, FnP K "_law_copy" sCopyM (He.ga K "_law_copy") fd := cd.def_ 51 (d := dsCopyM) rfl
  have m__law_copy := He.glo_ok X G (cd.fact 51 (f := .glo "_law_copy") rfl)
  obtain ⟨fd__law_counts, F__law_counts⟩ : ∃ fd, FnP K "_law_counts" sCountsM (He.ga K "_law_counts") fd := cd.def_ 52 (d := dsCountsM) rfl
  have m__law_counts := He.glo_ok X G (cd.fact 52 (f := .glo "_law_counts") rfl)
  obtain ⟨fd__law_put, F__law_put⟩ : ∃ fd, FnP K "_law_put" sPutM (He.ga K "_law_put") fd := cd.def_ 53 (d := dsPutM) rfl
  have m__law_put := He.glo_ok X G (cd.fact 53 (f := .glo "_law_put") rfl)
  obtain ⟨fd__law_after_put, F__law_after_put⟩ : ∃ fd, FnP K "_law_after_put" sAfter (He.ga K "_law_after_put") fd := cd.def_ 54 (d := dsAfter) rfl
  have m__law_after_put := He.glo_ok X G (cd.fact 54 (f := .glo "_law_after_put") rfl)
  obtain ⟨fd__law_switched, F__law_switched⟩ : ∃ fd, FnP K "_law_switched" sSwitchedM (He.ga K "_law_switched") fd := cd.def_ 55 (d := dsSwitchedM) rfl
  have m__law_switched := He.glo_ok X G (cd.fact 55 (f := .glo "_law_switched") rfl)
  obtain ⟨fd__law_after_turn, F__law_after_turn⟩ : ∃ fd, FnP K "_law_after_turn" sAfterTurn (He.ga K "_law_after_turn") fd := cd.def_ 56 (d := dsAfterTurn) rfl
  have m__law_after_turn := He.glo_ok X G (cd.fact 56 (f := .glo "_law_after_turn") rfl)
  obtain ⟨fd__law_after, F__law_after⟩ : ∃ fd, FnP K "_law_after" sAfterA (He.ga K "_law_after") fd := cd.def_ 57 (d := dsAfterA) rfl
  have m__law_after := He.glo_ok X G (cd.fact 57 (f := .glo "_law_after") rfl)
  obtain ⟨fd__law_laid, F__law_laid⟩ : ∃ fd, FnP K "_law_laid" sLaid (He.ga K "_law_laid") fd := cd.def_ 58 (d := dsLaid) rfl
  have m__law_laid := He.glo_ok X G (cd.fact 58 (f := .glo "_law_laid") rfl)
  obtain ⟨fd__law_floor_deeds, F__law_floor_deeds⟩ : ∃ fd, FnP K "_law_floor_deeds" sFloorD (He.ga K "_law_floor_deeds") fd := cd.def_ 59 (d := dsFloorD) rfl
  have m__law_floor_deeds := He.glo_ok X G (cd.fact 59 (f := .glo "_law_floor_deeds") rfl)
  obtain ⟨fd__law_chosen, F__law_chosen⟩ : ∃ fd, FnP K "_law_chosen" sChosen (He.ga K "_law_chosen") fd := cd.def_ 60 (d := dsChosen) rfl
  have m__law_chosen := He.glo_ok X G (cd.fact 60 (f := .glo "_law_chosen") rfl)
  obtain ⟨fd__law_burning, F__law_burning⟩ : ∃ fd, FnP K "_law_burning" sBurn (He.ga K "_law_burning") fd := cd.def_ 61 (d := dsBurn) rfl
  have m__law_burning := He.glo_ok X G (cd.fact 61 (f := .glo "_law_burning") rfl)
  obtain ⟨fd__law_spots, F__law_spots⟩ : ∃ fd, FnP K "_law_spots" sSpots (He.ga K "_law_spots") fd := cd.def_ 62 (d := dsSpots) rfl
  have m__law_spots := He.glo_ok X G (cd.fact 62 (f := .glo "_law_spots") rfl)
  obtain ⟨fd__law_twice, F__law_twice⟩ : ∃ fd, FnP K "_law_twice" sTwice (He.ga K "_law_twice") fd := cd.def_ 63 (d := dsTwice) rfl
  have m__law_twice := He.glo_ok X G (cd.fact 63 (f := .glo "_law_twice") rfl)
  obtain ⟨fd_law, F_law⟩ : ∃ fd, FnP K "law" sLaw (He.ga K "law") fd := cd.def_ 64 (d := dsLaw) rfl
  have m_law := He.glo_ok X G (cd.fact 64 (f := .glo "law") rfl)
  obtain ⟨fd_House___init__, F_House___init__⟩ : ∃ fd, FunD K "__init__" "House.__init__" (defArgs sInit) (defBody sInit) (defScope sInit) [] [] (He.ma K (He.ga K "House") "__init__") fd := cd.def_ 65 (d := dsInit) rfl
  obtain ⟨fd_House_do, F_House_do⟩ : ∃ fd, FunD K "do" "House.do" (defArgs sDo) (defBody sDo) (defScope sDo) [] [] (He.ma K (He.ga K "House") "do") fd := cd.def_ 66 (d := dsDo) rfl
  have mt_House_do := He.meth_ok (cd.fact 110 (f := .meth "House" "do") rfl)
  obtain ⟨fd_House_light, F_House_light⟩ : ∃ fd, FunD K "light" "House.light" (defArgs sLightM) (defBody sLightM) (defScope sLightM) [] [("setting", .non)] (He.ma K (He.ga K "House") "light") fd := cd.def_ 67 (d := dsLightM) rfl
  have mt_House_light := He.meth_ok (cd.fact 111 (f := .meth "House" "light") rfl)
  obtain ⟨fd_House_switch, F_House_switch⟩ : ∃ fd, FunD K "switch" "House.switch" (defArgs sSwitchM) (defBody sSwitchM) (defScope sSwitchM) [] [] (He.ma K (He.ga K "House") "switch") fd := cd.def_ 68 (d := dsSwitchM) rfl
  have mt_House_switch := He.meth_ok (cd.fact 112 (f := .meth "House" "switch") rfl)
  obtain ⟨fd_House_drop, F_House_drop⟩ : ∃ fd, FunD K "drop" "House.drop" (defArgs sDropM) (defBody sDropM) (defScope sDropM) [] [] (He.ma K (He.ga K "House") "drop") fd := cd.def_ 69 (d := dsDropM) rfl
  have mt_House_drop := He.meth_ok (cd.fact 113 (f := .meth "House" "drop") rfl)
  obtain ⟨fd_House_twin, F_House_twin⟩ : ∃ fd, FunD K "twin" "House.twin" (defArgs sTwin) (defBody sTwin) (defScope sTwin) [] [] (He.ma K (He.ga K "House") "twin") fd := cd.def_ 70 (d := dsTwin) rfl
  have mt_House_twin := He.meth_ok (cd.fact 114 (f := .meth "House" "twin") rfl)
  have m_BadPlace := He.glo_ok X G (cd.fact 65 (f := .glo "BadPlace") rfl)
  have m_BadLight := He.glo_ok X G (cd.fact 66 (f := .glo "BadLight") rfl)
  have m_BadSift := He.glo_ok X G (cd.fact 67 (f := .glo "BadSift") rfl)
  have m_BadBlock := He.glo_ok X G (cd.fact 68 (f := .glo "BadBlock") rfl)
  have m_BadPiece := He.glo_ok X G (cd.fact 69 (f := .glo "BadPiece") rfl)
  have m_BadSetting := He.glo_ok X G (cd.fact 70 (f := .glo "BadSetting") rfl)
  have m_Unknown := He.glo_ok X G (cd.fact 71 (f := .glo "Unknown") rfl)
  have m_Full := He.glo_ok X G (cd.fact 72 (f := .glo "Full") rfl)
  have m_ShadeError := He.glo_ok X G (cd.fact 73 (f := .glo "ShadeError") rfl)
  have m_Missing := He.glo_ok X G (cd.fact 74 (f := .glo "Missing") rfl)
  have m_Crowded := He.glo_ok X G (cd.fact 75 (f := .glo "Crowded") rfl)
  have m_House := He.glo_ok X G (cd.fact 76 (f := .glo "House") rfl)
  have m_SIFTS := He.glo_ok X G (cd.fact 77 (f := .glo "SIFTS") rfl)
  have m_DARK := He.glo_ok X G (cd.fact 78 (f := .glo "DARK") rfl)
  have m_SORTS := He.glo_ok X G (cd.fact 79 (f := .glo "SORTS") rfl)
  have m_FORMS := He.glo_ok X G (cd.fact 80 (f := .glo "FORMS") rfl)
  have m_DOERS := He.glo_ok X G (cd.fact 81 (f := .glo "DOERS") rfl)
  have g_len := He.free_ok X G (cd.fact 82 (f := .free "len") rfl)
  have g_list := He.free_ok X G (cd.fact 83 (f := .free "list") rfl)
  have g_int := He.free_ok X G (cd.fact 84 (f := .free "int") rfl)
  have g_str := He.free_ok X G (cd.fact 85 (f := .free "str") rfl)
  have g_bool := He.free_ok X G (cd.fact 86 (f := .free "bool") rfl)
  have g_tuple := He.free_ok X G (cd.fact 87 (f := .free "tuple") rfl)
  have g_dict := He.free_ok X G (cd.fact 88 (f := .free "dict") rfl)
  have g_isinstance := He.free_ok X G (cd.fact 89 (f := .free "isinstance") rfl)
  have g_all := He.free_ok X G (cd.fact 90 (f := .free "all") rfl)
  have g_any := He.free_ok X G (cd.fact 91 (f := .free "any") rfl)
  have g_range := He.free_ok X G (cd.fact 92 (f := .free "range") rfl)
  have g_super := He.free_ok X G (cd.fact 93 (f := .free "super") rfl)
  have g_zip := He.free_ok X G (cd.fact 94 (f := .free "zip") rfl)
  have g_min := He.free_ok X G (cd.fact 95 (f := .free "min") rfl)
  have g_max := He.free_ok X G (cd.fact 96 (f := .free "max") rfl)
  have g_abs := He.free_ok X G (cd.fact 97 (f := .free "abs") rfl)
  have g_sum := He.free_ok X G (cd.fact 98 (f := .free "sum") rfl)
  have g_sorted := He.free_ok X G (cd.fact 99 (f := .free "sorted") rfl)
  obtain ⟨t_FAR, m_FAR⟩ := He.int_ok X G (cd.fact 100 (f := .int "FAR" 1000000) rfl)
  obtain ⟨t_BRIGHT, m_BRIGHT⟩ := He.int_ok X G (cd.fact 101 (f := .int "BRIGHT" 1000000) rfl)
  obtain ⟨t_MOST_THINGS, m_MOST_THINGS⟩ := He.int_ok X G (cd.fact 102 (f := .int "MOST_THINGS" 12) rfl)
  obtain ⟨t_ALL_COLOURS, m_ALL_COLOURS⟩ := He.str_ok X G (cd.fact 103 (f := .str "ALL_COLOURS" "rgb") rfl)
  have cl_House := He.cls_ok (cd.fact 104 (f := .cls "House") rfl)
  have mk_House := He.mkr_ok (cd.fact 105 (f := .mkr "House") rfl)
  have na_House_state := He.noat_ok (cd.fact 106 (f := .noat "House" "state") rfl)
  have na_House_past := He.noat_ok (cd.fact 107 (f := .noat "House" "past") rfl)
  have na_House_ahead := He.noat_ok (cd.fact 108 (f := .noat "House" "ahead") rfl)
  have na_House_trying := He.noat_ok (cd.fact 109 (f := .noat "House" "trying") rfl)
  obtain ⟨es_FORMS, n_FORMS, D_FORMS⟩ : ∃ es n, KDict K w (He.ga K "FORMS") es n := c.x.t.tab 0
  obtain ⟨es_DOERS, n_DOERS, D_DOERS⟩ : ∃ es n, KDict K w (He.ga K "DOERS") es n := c.x.t.tab 1
  have ef : f = He.ga K "law" := by
    have e := hfa.symm.trans m_law
    cases e
    rfl
  subst ef
  have x0 : (He.tupB K "SIFTS" [.str "", .str "r", .str "g", .str "b", .str "rg", .str "rb", .str "gb", .str "rgb"] && (He.tupB K "DARK" [.int 0, .int 0, .int 0] && (He.tupB K "SORTS" [.str "lamp", .str "post", .str "pane"] && (strB (PySem.W.nsIn K (He.ga K "FORMS") "lamp") "nnnnn" && (strB (PySem.W.nsIn K (He.ga K "FORMS") "post") "nnnn" && (strB (PySem.W.nsIn K (He.ga K "FORMS") "pane") "nnnns" && (strB (PySem.W.nsIn K (He.ga K "FORMS") "switch") "n" && (strB (PySem.W.nsIn K (He.ga K "FORMS") "drop") "wn" && (He.eqO (PySem.W.nsIn K (He.ga K "DOERS") "lamp") (some (some (.ref (He.ga K "do_lamp")))) && (He.eqO (PySem.W.nsIn K (He.ga K "DOERS") "post") (some (some (.ref (He.ga K "do_post")))) && (He.eqO (PySem.W.nsIn K (He.ga K "DOERS") "pane") (some (some (.ref (He.ga K "do_pane")))) && (He.eqO (PySem.W.nsIn K (He.ga K "DOERS") "switch") (some (some (.ref (He.ga K "do_switch")))) && (He.eqO (PySem.W.nsIn K (He.ga K "DOERS") "drop") (some (some (.ref (He.ga K "do_drop")))) && (decide (He.ga K "do_post" ≠ He.ga K "do_lamp") && (decide (He.ga K "do_pane" ≠ He.ga K "do_lamp") && (decide (He.ga K "do_pane" ≠ He.ga K "do_post") && (decide (He.ga K "do_switch" ≠ He.ga K "do_lamp") && (decide (He.ga K "do_switch" ≠ He.ga K "do_post") && (decide (He.ga K "do_switch" ≠ He.ga K "do_pane") && (decide (He.ga K "do_drop" ≠ He.ga K "do_lamp") && (decide (He.ga K "do_drop" ≠ He.ga K "do_post") && (decide (He.ga K "do_drop" ≠ He.ga K "do_pane") && (decide (He.ga K "do_drop" ≠ He.ga K "do_switch")))))))))))))))))))))))) = true := c.x.more
  obtain ⟨xt_SIFTS, x0⟩ := He.ba x0
  obtain ⟨xt_DARK, x0⟩ := He.ba x0
  obtain ⟨xt_SORTS, x0⟩ := He.ba x0
  obtain ⟨xm_flamp, x0⟩ := He.ba x0
  obtain ⟨xm_fpost, x0⟩ := He.ba x0
  obtain ⟨xm_fpane, x0⟩ := He.ba x0
  obtain ⟨xm_fswitch, x0⟩ := He.ba x0
  obtain ⟨xm_fdrop, x0⟩ := He.ba x0
  obtain ⟨xm_dlamp, x0⟩ := He.ba x0
  obtain ⟨xm_dpost, x0⟩ := He.ba x0
  obtain ⟨xm_dpane, x0⟩ := He.ba x0
  obtain ⟨xm_dswitch, x0⟩ := He.ba x0
  obtain ⟨xm_ddrop, x0⟩ := He.ba x0
  obtain ⟨xm_npost_lamp, x0⟩ := He.ba x0
  obtain ⟨xm_npane_lamp, x0⟩ := He.ba x0
  obtain ⟨xm_npane_post, x0⟩ := He.ba x0
  obtain ⟨xm_nswitch_lamp, x0⟩ := He.ba x0
  obtain ⟨xm_nswitch_post, x0⟩ := He.ba x0
  obtain ⟨xm_nswitch_pane, x0⟩ := He.ba x0
  obtain ⟨xm_ndrop_lamp, x0⟩ := He.ba x0
  obtain ⟨xm_ndrop_post, x0⟩ := He.ba x0
  obtain ⟨xm_ndrop_pane, x0⟩ := He.ba x0
  have xm_ndrop_switch := x0
  obtain ⟨erB_BadPlace, erV_BadPlace⟩ := c.er dBadPlace (by simp)
  have Er_BadPlace : ∀ base : Heap, ErrF P w K mg base 1 "BadPlace" (He.ga K "BadPlace") "badplace" := fun base => BadPlace_ok hP hPs g_super m_BadPlace erB_BadPlace erV_BadPlace
  obtain ⟨erB_BadLight, erV_BadLight⟩ := c.er dBadLight (by simp)
  have Er_BadLight : ∀ base : Heap, ErrF P w K mg base 1 "BadLight" (He.ga K "BadLight") "badlight" := fun base => BadLight_ok hP hPs g_super m_BadLight erB_BadLight erV_BadLight
  obtain ⟨erB_BadSift, erV_BadSift⟩ := c.er dBadSift (by simp)
  have Er_BadSift : ∀ base : Heap, ErrF P w K mg base 1 "BadSift" (He.ga K "BadSift") "badsift" := fun base => BadSift_ok hP hPs g_super m_BadSift erB_BadSift erV_BadSift
  obtain ⟨erB_BadBlock, erV_BadBlock⟩ := c.er dBadBlock (by simp)
  have Er_BadBlock : ∀ base : Heap, ErrF P w K mg base 1 "BadBlock" (He.ga K "BadBlock") "badblock" := fun base => BadBlock_ok hP hPs g_super m_BadBlock erB_BadBlock erV_BadBlock
  obtain ⟨erB_BadPiece, erV_BadPiece⟩ := c.er dBadPiece (by simp)
  have Er_BadPiece : ∀ base : Heap, ErrF P w K mg base 1 "BadPiece" (He.ga K "BadPiece") "badpiece" := fun base => BadPiece_ok hP hPs g_super m_BadPiece erB_BadPiece erV_BadPiece
  obtain ⟨erB_BadSetting, erV_BadSetting⟩ := c.er dBadSetting (by simp)
  have Er_BadSetting : ∀ base : Heap, ErrF P w K mg base 1 "BadSetting" (He.ga K "BadSetting") "badsetting" := fun base => BadSetting_ok hP hPs g_super m_BadSetting erB_BadSetting erV_BadSetting
  obtain ⟨erB_Unknown, erV_Unknown⟩ := c.er dUnknown (by simp)
  have Er_Unknown : ∀ base : Heap, ErrF P w K mg base 1 "Unknown" (He.ga K "Unknown") "unknown" := fun base => Unknown_ok hP hPs g_super m_Unknown erB_Unknown erV_Unknown
  obtain ⟨erB_Full, erV_Full⟩ := c.er dFull (by simp)
  have Er_Full : ∀ base : Heap, ErrF P w K mg base 1 "Full" (He.ga K "Full") "full" := fun base => Full_ok hP hPs g_super m_Full erB_Full erV_Full
  have hb := FunD.bindsA (ps := ["_law_script"]) F_law (fun _ _ _ _ _ _ us hl => match us, hl with | [_], _ => rfl)
  refine ⟨_, fun s v => hb s [v] rfl, fun base => ?_⟩
  have hC : HouseC K (He.ga K "House") := ⟨cl_House, na_House_state, na_House_past, na_House_ahead, na_House_trying⟩
  have O_lean := own_of F_lean m_lean (ok_lean (P := P) (w := w) (mg := mg) (base := base) (n := 20) F_lean (by decide)) (fun _ _ _ _ _ _ us hl => match us, hl with | [_, _, _], _ => rfl)
  have O_side := own_of F_side m_side (ok_side (P := P) (w := w) (mg := mg) (base := base) (n := 20) F_side O_lean) (fun _ _ _ _ _ _ us hl => match us, hl with | [_, _, _], _ => rfl)
  have O_box_around := own_of F_box_around m_box_around (ok_box (P := P) (w := w) (mg := mg) (base := base) (n := 20) F_box_around g_min g_max) (fun _ _ _ _ _ _ us hl => match us, hl with | [_], _ => rfl)
  have O_blocks_meet := own_of F_blocks_meet m_blocks_meet (ok_blm (P := P) (w := w) (mg := mg) (base := base) (n := 20) F_blocks_meet ) (fun _ _ _ _ _ _ us hl => match us, hl with | [_, _], _ => rfl)
  have O_beside := own_of F_beside m_beside (ok_bes (P := P) (w := w) (mg := mg) (base := base) (n := 20) F_beside O_side g_min g_max) (fun _ _ _ _ _ _ us hl => match us, hl with | [_, _], _ => rfl)
  have O_pieces_meet := own_of F_pieces_meet m_pieces_meet (ok_pm (P := P) (w := w) (mg := mg) (base := base) (n := 20) F_pieces_meet O_blocks_meet O_box_around O_beside) (fun _ _ _ _ _ _ us hl => match us, hl with | [_, _], _ => rfl)
  have O_block_meets := own_of F_block_meets m_block_meets (ok_bm (P := P) (w := w) (mg := mg) (base := base) (n := 20) F_block_meets O_blocks_meet O_box_around O_beside) (fun _ _ _ _ _ _ us hl => match us, hl with | [_, _], _ => rfl)
  have X_check_sift : OwnX P w K mg base 3 "check_sift" ["sift"] [] _ := ⟨_, _, [], ok_check (P := P) (w := w) (mg := mg) (base := base) F_check_sift (Er_BadSift base) ⟨m_SIFTS, rfl⟩ (fun H => He.tupB_ok xt_SIFTS H), m_check_sift, F_check_sift.kp, .nil, F_check_sift.bindsN (fun _ _ _ _ _ _ us hl => match us, hl with | [_], _ => rfl)⟩
  have X_sifted : OwnX P w K mg base 4 "sifted" ["light", "sift"] [] _ := ⟨_, _, [], ok_sifted (P := P) (w := w) (mg := mg) (base := base) F_sifted X_check_sift, m_sifted, F_sifted.kp, .nil, F_sifted.bindsN (fun _ _ _ _ _ _ us hl => match us, hl with | [_, _], _ => rfl)⟩
  have X_both_sifts : OwnX P w K mg base 4 "both_sifts" ["one", "other"] [] _ := ⟨_, _, [], ok_both (P := P) (w := w) (mg := mg) (base := base) F_both_sifts X_check_sift, m_both_sifts, F_both_sifts.kp, .nil, F_both_sifts.bindsN (fun _ _ _ _ _ _ us hl => match us, hl with | [_, _], _ => rfl)⟩
  have O_summed := own_of F_summed m_summed (ok_summedL (P := P) (w := w) (mg := mg) (base := base) F_summed ⟨m_DARK, rfl⟩ (fun H => He.tupB_ok xt_DARK H)) (fun _ _ _ _ _ _ us hl => match us, hl with | [_], _ => rfl)
  have O_figures_of := own_of F_figures_of m_figures_of (ok_figsG (P := P) (w := w) (mg := mg) (base := base) (n := 20) F_figures_of ) (fun _ _ _ _ _ _ us hl => match us, hl with | [_], _ => rfl)
  have O_let_by := own_of F_let_by m_let_by (ok_letBy (P := P) (w := w) (mg := mg) (base := base) (n := 20) F_let_by O_block_meets O_pieces_meet ⟨_, m_ALL_COLOURS, ⟨t_ALL_COLOURS, rfl⟩⟩) (fun _ _ _ _ _ _ us hl => match us, hl with | [_, _, _], _ => rfl)
  have O_let_by_all := own_of F_let_by_all m_let_by_all (ok_letAllG (P := P) (w := w) (mg := mg) (base := base) (n := 20) F_let_by_all O_let_by X_both_sifts ⟨_, m_ALL_COLOURS, ⟨t_ALL_COLOURS, rfl⟩⟩) (fun _ _ _ _ _ _ us hl => match us, hl with | [_, _], _ => rfl)
  have O_brought := own_of F_brought m_brought (ok_broughtG (P := P) (w := w) (mg := mg) (base := base) (n := 20) F_brought X_sifted O_let_by_all) (fun _ _ _ _ _ _ us hl => match us, hl with | [_, _, _], _ => rfl)
  have O_choice_lights := own_of F_choice_lights m_choice_lights (ok_choice (P := P) (w := w) (mg := mg) (base := base) F_choice_lights O_figures_of O_brought ⟨m_DARK, rfl⟩ (fun H => He.tupB_ok xt_DARK H)) (fun _ _ _ _ _ _ us hl => match us, hl with | [_, _], _ => rfl)
  have O_picked_light := own_of F_picked_light m_picked_light (ok_picked (P := P) (w := w) (mg := mg) (base := base) F_picked_light O_summed) (fun _ _ _ _ _ _ us hl => match us, hl with | [_, _], _ => rfl)
  have X_check_place : OwnX P w K mg base 3 "check_place" ["place"] [] _ := ⟨_, _, [], ok_place (P := P) (w := w) (mg := mg) (base := base) F_check_place (Er_BadPlace base) g_max g_abs ⟨_, m_FAR, ⟨t_FAR, rfl⟩⟩, m_check_place, F_check_place.kp, .nil, F_check_place.bindsN (fun _ _ _ _ _ _ us hl => match us, hl with | [_], _ => rfl)⟩
  have X_check_light : OwnX P w K mg base 3 "check_light" ["light", "most"] [] _ := ⟨_, _, [], ok_lightC (P := P) (w := w) (mg := mg) (base := base) F_check_light (Er_BadLight base) g_max g_min, m_check_light, F_check_light.kp, .nil, F_check_light.bindsN (fun _ _ _ _ _ _ us hl => match us, hl with | [_, _], _ => rfl)⟩
  have X_row_number : OwnX P w K mg base 3 "row_number" ["counts", "row"] [] _ := ⟨_, _, [], ok_num (P := P) (w := w) (mg := mg) (base := base) F_row_number (Er_BadSetting base) g_zip g_len, m_row_number, F_row_number.kp, .nil, F_row_number.bindsN (fun _ _ _ _ _ _ us hl => match us, hl with | [_, _], _ => rfl)⟩
  have O_counts_of := own_of F_counts_of m_counts_of (ok_counts (P := P) (w := w) (mg := mg) (base := base) F_counts_of g_len) (fun _ _ _ _ _ _ us hl => match us, hl with | [_], _ => rfl)
  have X_checked_setting : OwnX P w K mg base 4 "checked_setting" ["lamps", "setting"] [] _ := ⟨_, _, [], ok_checked (P := P) (w := w) (mg := mg) (base := base) F_checked_setting O_counts_of X_row_number (Er_Unknown base), m_checked_setting, F_checked_setting.kp, .nil, F_checked_setting.bindsN (fun _ _ _ _ _ _ us hl => match us, hl with | [_, _], _ => rfl)⟩
  have O_picks_of := own_of F_picks_of m_picks_of (ok_picks (P := P) (w := w) (mg := mg) (base := base) F_picks_of g_len) (fun _ _ _ _ _ _ us hl => match us, hl with | [_, _], _ => rfl)
  have O_bare_floor := own_of F_bare_floor m_bare_floor (ok_bare (P := P) (w := w) (mg := mg) (base := base) F_bare_floor ⟨m_SORTS, rfl⟩ (fun H => He.tupB_ok xt_SORTS H)) (fun _ _ _ _ _ _ us hl => match us, hl with | [], _ => rfl)
  have O_first_state := own_of F_first_state m_first_state (ok_first (P := P) (w := w) (mg := mg) (base := base) F_first_state O_bare_floor) (fun _ _ _ _ _ _ us hl => match us, hl with | [], _ => rfl)
  have O_with_thing := own_of F_with_thing m_with_thing (ok_with (P := P) (w := w) (mg := mg) (base := base) F_with_thing ) (fun _ _ _ _ _ _ us hl => match us, hl with | [_, _, _, _], _ => rfl)
  have X_check_room : OwnX P w K mg base 3 "check_room" ["rows", "most"] [] _ := ⟨_, _, [], ok_room (P := P) (w := w) (mg := mg) (base := base) F_check_room (Er_Full base) g_len, m_check_room, F_check_room.kp, .nil, F_check_room.bindsN (fun _ _ _ _ _ _ us hl => match us, hl with | [_, _], _ => rfl)⟩
  have X_put : OwnX P w K mg base 4 "put" ["state", "sort", "thing"] [] _ := ⟨_, _, [], ok_put (P := P) (w := w) (mg := mg) (base := base) F_put X_check_room O_with_thing ⟨_, m_MOST_THINGS, ⟨t_MOST_THINGS, rfl⟩⟩, m_put, F_put.kp, .nil, F_put.bindsN (fun _ _ _ _ _ _ us hl => match us, hl with | [_, _, _], _ => rfl)⟩
  have O_thing_of := own_of F_thing_of m_thing_of (ok_thing (P := P) (w := w) (mg := mg) (base := base) F_thing_of ⟨m_SORTS, rfl⟩ (fun H => He.tupB_ok xt_SORTS H)) (fun _ _ _ _ _ _ us hl => match us, hl with | [_, _, _], _ => rfl)
  have O_without_thing := own_of F_without_thing m_without_thing (ok_without (P := P) (w := w) (mg := mg) (base := base) F_without_thing ) (fun _ _ _ _ _ _ us hl => match us, hl with | [_, _, _], _ => rfl)
  have H_lamp : HeldX P w K mg base 5 (He.ga K "do_lamp") (spDoLamp K (He.ga K "BadPlace") (He.ga K "BadLight") (He.ga K "Full")) := ⟨_, _, FnOk.mono (ok_doLamp (P := P) (w := w) (mg := mg) (base := base) F_do_lamp X_check_place X_check_light X_put ⟨_, m_BRIGHT, ⟨t_BRIGHT, rfl⟩⟩) (by decide), F_do_lamp.kp, F_do_lamp.bindsN (fun _ _ _ _ _ _ us hl => match us, hl with | [_, _, _, _, _, _], _ => rfl)⟩
  have H_post : HeldX P w K mg base 5 (He.ga K "do_post") (spDoPost K (He.ga K "BadPlace") (He.ga K "BadBlock") (He.ga K "Full")) := ⟨_, _, FnOk.mono (ok_doPost (P := P) (w := w) (mg := mg) (base := base) F_do_post X_check_place (Er_BadBlock base) X_put) (by decide), F_do_post.kp, F_do_post.bindsN (fun _ _ _ _ _ _ us hl => match us, hl with | [_, _, _, _, _], _ => rfl)⟩
  have H_pane : HeldX P w K mg base 5 (He.ga K "do_pane") (spDoPane K (He.ga K "BadPlace") (He.ga K "BadPiece") (He.ga K "BadSift") (He.ga K "Full")) := ⟨_, _, FnOk.mono (ok_doPane (P := P) (w := w) (mg := mg) (base := base) F_do_pane X_check_place (Er_BadPiece base) X_check_sift X_put) (by decide), F_do_pane.kp, F_do_pane.bindsN (fun _ _ _ _ _ _ us hl => match us, hl with | [_, _, _, _, _, _], _ => rfl)⟩
  have H_switch : HeldX P w K mg base 5 (He.ga K "do_switch") (spSwitchG K 20) := ⟨_, _, FnOk.mono (ok_switchG (P := P) (w := w) (mg := mg) (base := base) F_do_switch O_thing_of O_with_thing) (by decide), F_do_switch.kp, F_do_switch.bindsN (fun _ _ _ _ _ _ us hl => match us, hl with | [_, _], _ => rfl)⟩
  have H_drop : HeldX P w K mg base 5 (He.ga K "do_drop") (spDropG K 20) := ⟨_, _, FnOk.mono (ok_drop (P := P) (w := w) (mg := mg) (base := base) F_do_drop O_thing_of O_without_thing) (by decide), F_do_drop.kp, F_do_drop.bindsN (fun _ _ _ _ _ _ us hl => match us, hl with | [_, _, _], _ => rfl)⟩
  let S : Addr → Option Sp := fun a => if a = He.ga K "do_lamp" then some (spDoLamp K (He.ga K "BadPlace") (He.ga K "BadLight") (He.ga K "Full")) else if a = He.ga K "do_post" then some (spDoPost K (He.ga K "BadPlace") (He.ga K "BadBlock") (He.ga K "Full")) else if a = He.ga K "do_pane" then some (spDoPane K (He.ga K "BadPlace") (He.ga K "BadPiece") (He.ga K "BadSift") (He.ga K "Full")) else if a = He.ga K "do_switch" then some (spSwitchG K 20) else if a = He.ga K "do_drop" then some (spDropG K 20) else none
  have HS : ∀ f sp, S f = some sp → HeldX P w K mg base 5 f sp := fun f sp h => by
    have h : (if f = He.ga K "do_lamp" then some (spDoLamp K (He.ga K "BadPlace") (He.ga K "BadLight") (He.ga K "Full")) else if f = He.ga K "do_post" then some (spDoPost K (He.ga K "BadPlace") (He.ga K "BadBlock") (He.ga K "Full")) else if f = He.ga K "do_pane" then some (spDoPane K (He.ga K "BadPlace") (He.ga K "BadPiece") (He.ga K "BadSift") (He.ga K "Full")) else if f = He.ga K "do_switch" then some (spSwitchG K 20) else if f = He.ga K "do_drop" then some (spDropG K 20) else none) = some sp := h
    by_cases e0 : f = He.ga K "do_lamp"
    · rw [if_pos e0] at h
      cases h
      rw [e0]
      exact H_lamp
    rw [if_neg e0] at h
    by_cases e1 : f = He.ga K "do_post"
    · rw [if_pos e1] at h
      cases h
      rw [e1]
      exact H_post
    rw [if_neg e1] at h
    by_cases e2 : f = He.ga K "do_pane"
    · rw [if_pos e2] at h
      cases h
      rw [e2]
      exact H_pane
    rw [if_neg e2] at h
    by_cases e3 : f = He.ga K "do_switch"
    · rw [if_pos e3] at h
      cases h
      rw [e3]
      exact H_switch
    rw [if_neg e3] at h
    by_cases e4 : f = He.ga K "do_drop"
    · rw [if_pos e4] at h
      cases h
      rw [e4]
      exact H_drop
    rw [if_neg e4] at h
    cases h
  obtain ⟨tk_lamp, hf_lamp⟩ := strB_ok xm_flamp
  have D_lamp : DoerA K (He.ga K "FORMS") (He.ga K "DOERS") S "lamp" "nnnnn" (spDoLamp K (He.ga K "BadPlace") (He.ga K "BadLight") (He.ga K "Full")) := ⟨tk_lamp, _, hf_lamp, He.eqO_ok xm_dlamp, if_pos rfl⟩
  obtain ⟨tk_post, hf_post⟩ := strB_ok xm_fpost
  have D_post : DoerA K (He.ga K "FORMS") (He.ga K "DOERS") S "post" "nnnn" (spDoPost K (He.ga K "BadPlace") (He.ga K "BadBlock") (He.ga K "Full")) := ⟨tk_post, _, hf_post, He.eqO_ok xm_dpost, (if_neg (of_decide_eq_true xm_npost_lamp)).trans (if_pos rfl)⟩
  obtain ⟨tk_pane, hf_pane⟩ := strB_ok xm_fpane
  have D_pane : DoerA K (He.ga K "FORMS") (He.ga K "DOERS") S "pane" "nnnns" (spDoPane K (He.ga K "BadPlace") (He.ga K "BadPiece") (He.ga K "BadSift") (He.ga K "Full")) := ⟨tk_pane, _, hf_pane, He.eqO_ok xm_dpane, (if_neg (of_decide_eq_true xm_npane_lamp)).trans ((if_neg (of_decide_eq_true xm_npane_post)).trans (if_pos rfl))⟩
  obtain ⟨tk_switch, hf_switch⟩ := strB_ok xm_fswitch
  have D_switch : DoerA K (He.ga K "FORMS") (He.ga K "DOERS") S "switch" "n" (spSwitchG K 20) := ⟨tk_switch, _, hf_switch, He.eqO_ok xm_dswitch, (if_neg (of_decide_eq_true xm_nswitch_lamp)).trans ((if_neg (of_decide_eq_true xm_nswitch_post)).trans ((if_neg (of_decide_eq_true xm_nswitch_pane)).trans (if_pos rfl)))⟩
  obtain ⟨tk_drop, hf_drop⟩ := strB_ok xm_fdrop
  have D_drop : DoerA K (He.ga K "FORMS") (He.ga K "DOERS") S "drop" "wn" (spDropG K 20) := ⟨tk_drop, _, hf_drop, He.eqO_ok xm_ddrop, (if_neg (of_decide_eq_true xm_ndrop_lamp)).trans ((if_neg (of_decide_eq_true xm_ndrop_post)).trans ((if_neg (of_decide_eq_true xm_ndrop_pane)).trans ((if_neg (of_decide_eq_true xm_ndrop_switch)).trans (if_pos rfl))))⟩
  have X_applied : OwnX P w K mg base 6 "applied" ["state", "deed"] [] (spApplied K (He.ga K "FORMS") (He.ga K "DOERS") S) := ⟨_, _, [], ok_applied F_applied D_FORMS D_DOERS HS g_len ⟨m_FORMS, rfl⟩ ⟨m_DOERS, rfl⟩, m_applied, F_applied.kp, .nil, F_applied.bindsN (fun _ _ _ _ _ _ us hl => match us, hl with | [_, _], _ => rfl)⟩
  have M_do : MetX P w K mg base 7 (He.ga K "House") "do" ["self", "deed"] [] (spPutX K (He.ga K "House") 20) := ⟨cl_House, _, _, [], (ok_do F_House_do hC X_applied).imp (do_put (C := He.ga K "House") (n := 20) D_lamp D_post D_pane), mt_House_do, .nil, F_House_do.bindsN (fun _ _ _ _ _ _ us hl => match us, hl with | [_, _], _ => rfl)⟩
  have M_doW : MetX P w K mg base 7 (He.ga K "House") "do" ["self", "deed"] [] (spSwitchX K (He.ga K "House") 20) := ⟨cl_House, _, _, [], (ok_do F_House_do hC X_applied).imp (do_switchX (C := He.ga K "House") (n := 20) D_switch), mt_House_do, .nil, F_House_do.bindsN (fun _ _ _ _ _ _ us hl => match us, hl with | [_, _], _ => rfl)⟩
  have M_doD : MetX P w K mg base 7 (He.ga K "House") "do" ["self", "deed"] [] (spDropX K (He.ga K "House") 20) := ⟨cl_House, _, _, [], (ok_do F_House_do hC X_applied).imp (do_dropX (C := He.ga K "House") (n := 20) D_drop), mt_House_do, .nil, F_House_do.bindsN (fun _ _ _ _ _ _ us hl => match us, hl with | [_, _], _ => rfl)⟩
  have M_switch : MetX P w K mg base 8 (He.ga K "House") "switch" ["self", "number"] [] (spSwitchH2 K (He.ga K "House") 20) := ⟨cl_House, _, _, [], (ok_switchM F_House_switch M_doW).imp switch_h2, mt_House_switch, .nil, F_House_switch.bindsN (fun _ _ _ _ _ _ us hl => match us, hl with | [_, _], _ => rfl)⟩
  have M_drop : MetX P w K mg base 8 (He.ga K "House") "drop" ["self", "sort", "number"] [] (spDropH K (He.ga K "House") 20) := ⟨cl_House, _, _, [], (ok_dropM F_House_drop M_doD).imp drop_h, mt_House_drop, .nil, F_House_drop.bindsN (fun _ _ _ _ _ _ us hl => match us, hl with | [_, _, _], _ => rfl)⟩
  have M_House : MkX P w K mg base 3 "House" (He.ga K "House") ["self"] (spInit K (He.ga K "House")) := ⟨_, _, mk_House, ok_init F_House___init__ hC O_first_state, m_House, F_House___init__.bindsN (fun _ _ _ _ _ _ us hl => match us, hl with | [_], _ => rfl)⟩
  have M_twin : MetX P w K mg base 5 (He.ga K "House") "twin" ["self"] [] (spTwin K (He.ga K "House") 20) := ⟨cl_House, _, _, [], fn_cx (ok_twin F_House_twin hC M_House g_list), mt_House_twin, .nil, F_House_twin.bindsN (fun _ _ _ _ _ _ us hl => match us, hl with | [_], _ => rfl)⟩
  have bg := FunD.binds0 (ps := ["self", "across", "up", "setting"]) F_House_light 3 (by simp) rfl fun D doc pm an cdv ct us ks l1 l2 => match us, ks, l1, l2 with
    | [_, _, _], [_], _, _ => ⟨_, _, _, _, _, _, rfl, rfl, rfl⟩
  obtain ⟨dsg, vg, bg⟩ := bg
  have FG : FnOk P w K mg base (L2.CX P w) 9 (He.ma K (He.ga K "House") "light") fd_House_light ["self", "across", "up", "setting"] (spLightX K (He.ga K "House")) := (ok_lightM F_House_light hC X_check_place X_checked_setting O_choice_lights O_picked_light O_picks_of).imp light_x
  have M_light : MetX P w K mg base 9 (He.ga K "House") "light" ["self", "across", "up", "setting"] [.non] (spLightX K (He.ga K "House")) := ⟨cl_House, _, _, dsg, FG, mt_House_light, vg, bg⟩
  have O__law_same := own_of F__law_same m__law_same (ok_same (P := P) (w := w) (base := base) F__law_same m__law_same g_len g_isinstance g_bool g_int g_str g_list g_tuple g_all g_range 4) (fun _ _ _ _ _ _ us hl => match us, hl with | [_, _], _ => rfl)
  have O__law_pull := own_of F__law_pull m__law_pull (ok_pull (P := P) (w := w) (mg := mg) (base := base) F__law_pull g_len) (fun _ _ _ _ _ _ us hl => match us, hl with | [_, _], _ => rfl)
  have O__law_bag := own_of F__law_bag m__law_bag (ok_bag (P := P) (w := w) (mg := mg) (base := base) F__law_bag g_len g_list) (fun _ _ _ _ _ _ us hl => match us, hl with | [_], _ => rfl)
  have O__law_corners := own_of F__law_corners m__law_corners (ok_corn (P := P) (w := w) (mg := mg) (base := base) (n := 20) F__law_corners ) (fun _ _ _ _ _ _ us hl => match us, hl with | [_], _ => rfl)
  have O__law_sum := own_of F__law_sum m__law_sum (ok_sum (P := P) (w := w) (mg := mg) (base := base) F__law_sum g_tuple g_range g_sum) (fun _ _ _ _ _ _ us hl => match us, hl with | [_], _ => rfl)
  have O__law_grid := own_of F__law_grid m__law_grid (ok_grid (P := P) (w := w) (mg := mg) (base := base) F__law_grid O__law_pull) (fun _ _ _ _ _ _ us hl => match us, hl with | [_], _ => rfl)
  have O__law_spot := own_of F__law_spot m__law_spot (ok_spot (P := P) (w := w) (mg := mg) (base := base) F__law_spot O__law_pull) (fun _ _ _ _ _ _ us hl => match us, hl with | [_, _], _ => rfl)
  have O__law_one := own_of F__law_one m__law_one (ok_one (P := P) (w := w) (mg := mg) (base := base) F__law_one O__law_pull g_len) (fun _ _ _ _ _ _ us hl => match us, hl with | [_, _], _ => rfl)
  have O__law_mixed := own_of F__law_mixed m__law_mixed (ok_mixed (P := P) (w := w) (mg := mg) (base := base) F__law_mixed O__law_pull g_len g_range g_list) (fun _ _ _ _ _ _ us hl => match us, hl with | [_, _], _ => rfl)
  have O__law_other_spot := own_of F__law_other_spot m__law_other_spot (ok_other (P := P) (w := w) (mg := mg) (base := base) F__law_other_spot O__law_spot) (fun _ _ _ _ _ _ us hl => match us, hl with | [_, _, _], _ => rfl)
  have O__law_tint := own_of F__law_tint m__law_tint (ok_tint (P := P) (w := w) (mg := mg) (base := base) F__law_tint O__law_pull g_range g_tuple) (fun _ _ _ _ _ _ us hl => match us, hl with | [_], _ => rfl)
  have O__law_block := own_of F__law_block m__law_block (ok_block (P := P) (w := w) (mg := mg) (base := base) F__law_block O__law_pull O__law_spot g_min) (fun _ _ _ _ _ _ us hl => match us, hl with | [_, _], _ => rfl)
  have O__law_letters := own_of F__law_letters m__law_letters (ok_letters (P := P) (w := w) (mg := mg) (base := base) F__law_letters O__law_pull) (fun _ _ _ _ _ _ us hl => match us, hl with | [_], _ => rfl)
  have O__law_thing_deed := own_of F__law_thing_deed m__law_thing_deed (ok_thingD (P := P) (w := w) (mg := mg) (base := base) F__law_thing_deed O__law_spot O__law_tint O__law_block O__law_other_spot O__law_letters) (fun _ _ _ _ _ _ us hl => match us, hl with | [_, _, _], _ => rfl)
  have O__law_new := own_of F__law_new m__law_new (ok_newM (P := P) (w := w) (mg := mg) (base := base) F__law_new ) (fun _ _ _ _ _ _ us hl => match us, hl with | [], _ => rfl)
  have O__law_copy := own_of F__law_copy m__law_copy (ok_copyM (P := P) (w := w) (mg := mg) (base := base) F__law_copy g_dict) (fun _ _ _ _ _ _ us hl => match us, hl with | [_], _ => rfl)
  have O__law_counts := own_of F__law_counts m__law_counts (ok_countsM (P := P) (w := w) (mg := mg) (base := base) (n := 20) F__law_counts g_len g_sorted) (fun _ _ _ _ _ _ us hl => match us, hl with | [_], _ => rfl)
  have O__law_put := own_of F__law_put m__law_put (ok_putM (P := P) (w := w) (mg := mg) (base := base) F__law_put O__law_copy) (fun _ _ _ _ _ _ us hl => match us, hl with | [_, _, _], _ => rfl)
  have O__law_after_put := own_of F__law_after_put m__law_after_put (ok_after (P := P) (w := w) (mg := mg) (base := base) (n := 20) F__law_after_put O__law_put g_tuple) (fun _ _ _ _ _ _ us hl => match us, hl with | [_, _], _ => rfl)
  have O__law_switched := own_of F__law_switched m__law_switched (ok_switchedM (P := P) (w := w) (mg := mg) (base := base) (n := 20) F__law_switched O__law_copy) (fun _ _ _ _ _ _ us hl => match us, hl with | [_, _], _ => rfl)
  have O__law_after_turn := own_of F__law_after_turn m__law_after_turn (ok_afterTurn (P := P) (w := w) (mg := mg) (base := base) (n := 20) F__law_after_turn O__law_switched) (fun _ _ _ _ _ _ us hl => match us, hl with | [_, _], _ => rfl)
  have O__law_after := own_of F__law_after m__law_after (ok_afterA (P := P) (w := w) (mg := mg) (base := base) (n := 20) F__law_after O__law_after_turn) (fun _ _ _ _ _ _ us hl => match us, hl with | [_, _], _ => rfl)
  have O__law_laid := own_of F__law_laid m__law_laid (ok_laidX (P := P) (w := w) (mg := mg) (base := base) (n := 20) F__law_laid M_do O__law_after_put) (fun _ _ _ _ _ _ us hl => match us, hl with | [_, _, _], _ => rfl)
  have O__law_floor_deeds := own_of F__law_floor_deeds m__law_floor_deeds (ok_floorD (P := P) (w := w) (mg := mg) (base := base) F__law_floor_deeds O__law_pull O__law_thing_deed O__law_mixed g_range) (fun _ _ _ _ _ _ us hl => match us, hl with | [_, _, _, _, _], _ => rfl)
  have O__law_chosen := own_of F__law_chosen m__law_chosen (ok_chosen (P := P) (w := w) (mg := mg) (base := base) (n := 20) F__law_chosen g_len g_sorted g_int) (fun _ _ _ _ _ _ us hl => match us, hl with | [_, _], _ => rfl)
  have O__law_burning := own_of F__law_burning m__law_burning (ok_burn (P := P) (w := w) (mg := mg) (base := base) (n := 20) F__law_burning O__law_chosen g_sorted) (fun _ _ _ _ _ _ us hl => match us, hl with | [_, _], _ => rfl)
  have O__law_spots := own_of F__law_spots m__law_spots (ok_spots (P := P) (w := w) (mg := mg) (base := base) F__law_spots O__law_pull O__law_spot O__law_one O__law_counts O__law_burning O__law_corners g_range g_len g_sorted) (fun _ _ _ _ _ _ us hl => match us, hl with | [_, _, _, _], _ => rfl)
  have O__law_twice := own_of F__law_twice m__law_twice (ok_twice (P := P) (w := w) (mg := mg) (base := base) F__law_twice g_tuple) (fun _ _ _ _ _ _ us hl => match us, hl with | [_], _ => rfl)
  exact ok_law F_law O__law_bag O__law_grid O__law_pull M_House O__law_new O__law_floor_deeds O__law_laid O__law_twice O__law_after O__law_spots O__law_same O__law_sum M_light M_switch M_drop M_twin g_tuple g_sorted
end Hs
open PySem PySem.W PySem.Calls PyProof.Rows
theorem PySem.Challenge.cw_hueshade_k14_whole_floors_of_one_lamp_ea_holds : PySem.Challenge.rw_hueshade_k14_whole_floors_of_one_lamp_ea.Holds := by
  w_on; o_law
  refine HandSHeadRun.head_any (r := OpenLaw.row PySem.Challenge.rw_hueshade_k14_whole_floors_of_one_lamp_ea) (q := view (OpenLaw.row PySem.Challenge.rw_hueshade_k14_whole_floors_of_one_lamp_ea).prog [136]) (H := Hs.hk) (ob := Hs.ob) (M := 20000) (loose := Hs.others) (d := HandSHeadRun.topDef (OpenLaw.row PySem.Challenge.rw_hueshade_k14_whole_floors_of_one_lamp_ea).prog 136) (kwd := []) Hs.ob_eq
    (by kernel_rfl) (fun s => by kernel_rfl) Hs.run (by kernel_rfl) (by kernel_rfl) (by kernel_rfl) (by rfl) (by first | assumption | decide +kernel) (by decide +kernel) ⟨rfl, rfl, rfl, rfl, rfl, by decide +kernel⟩ ?hw ?hc
  case hw => w_witness2
  case hc =>
    refine L2.walk_ofE (l := PySem.Challenge.rw_hueshade_k14_whole_floors_of_one_lamp_ea) (n := 63) (k := 10) (x := "_law_script") (CX := L2.CX0) rfl (by decide) (by kernel_rfl) ⟨rfl, by decide, by decide⟩ ?F (fun _ _ _ _ z => z)
    intro w mg fa h Y G hmg0
    obtain ⟨K, KX, c⟩ := Y
    have hmg : mg ("law" : PySem.Str) = some (.ref fa) := by
      have e : (HandSHeadRun.topDef (OpenLaw.row PySem.Challenge.rw_hueshade_k14_whole_floors_of_one_lamp_ea).prog 136).name = ("law" : PySem.Str) := by kernel_rfl
      rw [← e]
      exact hmg0
    obtain ⟨fd, hb, hF⟩ := Hs.facts (P := (PySem.Challenge.rw_hueshade_k14_whole_floors_of_one_lamp_ea).prog) (w := w) (by kernel_rfl) (by kernel_rfl) KX G hmg c
    exact ⟨K, fd, Hs.spLaw K, KX, hb, fun H a ns hl _ hS => ⟨a, ns, rfl, hS, hl, fun _ => rfl⟩, fun base _ _ => hF base⟩
