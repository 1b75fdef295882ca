import PyProof.Rows.All
import Wide.All
import OpenK.AllK
import Wide.FinOn
import HandS.ForMost
import HandS.ForExc
import HandS.Wide
import HandS.IsInst
import HandS.Lambda
import HandS.Defaults
import HandS.Evl
import HandS.Codes
import HandS.Style
import HandS.More
import HandS.FStr
import HandS.TryMany
import HandS.ExcField
import HandS.NoneIn
import HandS.ExcInit
import HandS.ExcSuper
import KE.KExcSuper
import KE.KExcInit
import KE.DatumOrd
import HandS.Zip
import HandS.Walk
import HandS.Rev
import HandS.TupAny
import HandS.DictComp
import HandS.CallLocal
import HandS.Star
import HandS.Flow
import HandS.Nested
import HandS.Head0
import HandS.Head1
import HandS.Head2
import HandS.HeadEnd
import HandS.HeadHook1
import HandS.HeadHook2
import HandS.HeadHook3
import HandS.HeadHook4
import HandS.HeadWalk
import PySem.Challenge.RW_hueshade_k09_lamps_alone
set_option Elab.async false
set_option linter.all false
set_option maxRecDepth 100000
set_option maxHeartbeats 0
namespace Hs
/-! ### fractions in lowest terms -/
/-- the common part, with the sign of the bottom -/
def sg (a b : Int) : Int := if b < 0 then -(Int.gcd a b : Int) else (Int.gcd a b : Int)
def low (a b : Int) : Int × Int := (a.fdiv (sg a b), b.fdiv (sg a b))
theorem gcd_pos {a b : Int} (h : b ≠ 0) : 0 < Int.gcd a b := Int.gcd_pos_of_ne_zero_right a h
theorem sg_ne {a b : Int} (h : b ≠ 0) : sg a b ≠ 0 := by
  have := gcd_pos (a := a) h
  unfold sg
  split <;> omega
theorem sg_abs {a b : Int} : (sg a b).natAbs = Int.gcd a b := by
  unfold sg
  split <;> omega
theorem sg_dvd_left (a b : Int) : sg a b ∣ a := by
  unfold sg
  split
  · exact Int.neg_dvd.mpr (Int.gcd_dvd_left ..)
  · exact Int.gcd_dvd_left ..
theorem sg_dvd_right (a b : Int) : sg a b ∣ b := by
  unfold sg
  split
  · exact Int.neg_dvd.mpr (Int.gcd_dvd_right ..)
  · exact Int.gcd_dvd_right ..
theorem low_1 (a b : Int) : a = sg a b * (low a b).1 := by
  have h := sg_dvd_left a b
  show a = sg a b * a.fdiv (sg a b)
  rw [Int.fdiv_eq_ediv_of_dvd h, Int.mul_ediv_cancel' h]
theorem low_2 (a b : Int) : b = sg a b * (low a b).2 := by
  have h := sg_dvd_right a b
  show b = sg a b * b.fdiv (sg a b)
  rw [Int.fdiv_eq_ediv_of_dvd h, Int.mul_ediv_cancel' h]
theorem low_of {a b g x y : Int} (h : b ≠ 0) (hg : sg a b = g) (ha : a = g * x) (hb : b = g * y) : low a b = (x, y) := by
  have h1 := low_1 a b
  have h2 := low_2 a b
  have hn : g ≠ 0 := by
    rw [← hg]
    exact sg_ne h
  rw [hg] at h1 h2
  have e1 : (low a b).1 = x := Int.eq_of_mul_eq_mul_left hn (h1.symm.trans ha)
  have e2 : (low a b).2 = y := Int.eq_of_mul_eq_mul_left hn (h2.symm.trans hb)
  rw [← e1, ← e2]
theorem low_pos {a b : Int} (h : b ≠ 0) : 0 < (low a b).2 := by
  have h2 := low_2 a b
  have hp := gcd_pos (a := a) h
  by_cases hb : b < 0
  · have e : sg a b = -(Int.gcd a b : Int) := if_pos hb
    rw [e] at h2
    apply Decidable.byContradiction
    intro hn
    have : 0 ≤ -(Int.gcd a b : Int) * (low a b).2 := by
      have := Int.mul_nonneg_of_nonpos_of_nonpos (a := -(Int.gcd a b : Int)) (b := (low a b).2) (by omega) (by omega)
      exact this
    omega
  · have e : sg a b = (Int.gcd a b : Int) := if_neg hb
    rw [e] at h2
    apply Decidable.byContradiction
    intro hn
    have : (Int.gcd a b : Int) * (low a b).2 ≤ 0 := Int.mul_nonpos_of_nonneg_of_nonpos (by omega) (by omega)
    omega
theorem low_b1 {a b : Int} (h : b ≠ 0) : (low a b).1.natAbs ≤ a.natAbs := by
  have h1 := congrArg Int.natAbs (low_1 a b)
  rw [Int.natAbs_mul, sg_abs] at h1
  rw [h1]
  exact Nat.le_mul_of_pos_left _ (gcd_pos h)
theorem low_b2 {a b : Int} (h : b ≠ 0) : (low a b).2.natAbs ≤ b.natAbs := by
  have h1 := congrArg Int.natAbs (low_2 a b)
  rw [Int.natAbs_mul, sg_abs] at h1
  have h2 := Nat.le_mul_of_pos_left (low a b).2.natAbs (gcd_pos (a := a) h)
  omega
theorem sg_mul {k a b : Int} (hk : k ≠ 0) (h : b ≠ 0) : sg (k * a) (k * b) = k * sg a b := by
  unfold sg
  rw [Int.gcd_mul_left, Int.natCast_mul]
  by_cases h1 : 0 < k
  · have e : (k.natAbs : Int) = k := by omega
    rw [e]
    by_cases h2 : b < 0
    · have : k * b < 0 := Int.mul_neg_of_pos_of_neg h1 h2
      rw [if_pos this, if_pos h2, Int.mul_neg]
    · have : 0 ≤ k * b := Int.mul_nonneg (by omega) (by omega)
      rw [if_neg (by omega), if_neg h2]
  · have e : (k.natAbs : Int) = -k := by omega
    rw [e]
    by_cases h2 : b < 0
    · have : 0 ≤ k * b := Int.mul_nonneg_of_nonpos_of_nonpos (by omega) (by omega)
      rw [if_neg (by omega), if_pos h2, Int.mul_neg, Int.neg_mul]
    · have : k * b < 0 := Int.mul_neg_of_neg_of_pos (by omega) (by omega)
      rw [if_pos this, if_neg h2, Int.neg_mul, Int.neg_neg]
theorem low_scale {k a b : Int} (hk : k ≠ 0) (h : b ≠ 0) : low (k * a) (k * b) = low a b := by
  have hkb : k * b ≠ 0 := Int.mul_ne_zero hk h
  refine low_of hkb (sg_mul hk h) ?_ ?_
  · rw [Int.mul_assoc]
    exact congrArg (k * ·) (low_1 a b)
  · rw [Int.mul_assoc]
    exact congrArg (k * ·) (low_2 a b)
theorem low_one (a : Int) : low a 1 = (a, 1) := by
  have e : sg a 1 = 1 := by
    unfold sg
    rw [if_neg (by decide), Int.gcd_one_right] <;> rfl
  exact low_of (by decide) e (by omega) (by omega)
/-- the middle: the half of a sum in lowest terms -/
theorem low_half {x y : Int} (h : y ≠ 0) : low ((low x y).1 * 1) ((low x y).2 * 2) = low x (2 * y) := by
  have h1 := low_1 x y
  have h2 := low_2 x y
  have hp := low_pos (a := x) h
  have e : low x (2 * y) = low (sg x y * ((low x y).1 * 1)) (sg x y * ((low x y).2 * 2)) := by
    congr 1
    · rw [Int.mul_one]
      exact h1
    · rw [← Int.mul_assoc, ← h2, Int.mul_comm]
  rw [e]
  exact (low_scale (sg_ne h) (by omega)).symm
end Hs
namespace Hs
open PySem PySem.Spec PyProof.Rows L2 Evl
/-! ### own words -/
/-- // by any divisor but nought, below 2 ^ 9000 -/
def CDivG (i j : Int) : Prop := j ≠ 0 ∧ (j.natAbs.log2 < 9000 ∨ i.natAbs.log2 < 13400)
theorem noPylong_x {x y : Int} (h : x.natAbs.log2 < 13400) : Builtin.divisionGoesByPylong x y = false := by
  have key : (if x == 0 then 0 else x.natAbs.log2 / 30 + 1) ≤ 450 := by
    by_cases hx : (x == 0) = true
    · rw [if_pos hx]
      exact Nat.zero_le _
    · rw [if_neg hx]
      omega
  show (decide ((if y == 0 then 0 else y.natAbs.log2 / 30 + 1) > 300) && decide ((if x == 0 then 0 else x.natAbs.log2 / 30 + 1) > (if y == 0 then 0 else y.natAbs.log2 / 30 + 1) + 150)) = false
  generalize (if y == 0 then 0 else y.natAbs.log2 / 30 + 1) = b
  generalize (if x == 0 then 0 else x.natAbs.log2 / 30 + 1) = a at key
  by_cases hb : b > 300
  · rw [decide_eq_false (show ¬ a > b + 150 by omega), Bool.and_false]
  · rw [decide_eq_false hb, Bool.false_and]
theorem op_fdivG {X : Cx} : OpR X (binaryOp .FloorDiv) (rI CDivG fun i j => .int (i.fdiv j)) := opI fun i j _ _ _ _ _ hc q => floordiv_int hc.1 q (.inl (hc.2.elim PyProof.noPylong_of_log2 noPylong_x))
theorem divG {i j : Int} {b : Nat} (h : j ≠ 0) (hb : j.natAbs < 2 ^ b) (h0 : 0 < b) (h9 : b ≤ 9000) : CDivG i j := ⟨h, .inl (Nat.lt_of_lt_of_le (PySem.Flt.log2_lt_of h0 hb) h9)⟩
theorem divX {i j : Int} {b : Nat} (h : j ≠ 0) (hb : i.natAbs < 2 ^ b) (h0 : 0 < b) (h9 : b ≤ 13400) : CDivG i j := ⟨h, .inr (Nat.lt_of_lt_of_le (PySem.Flt.log2_lt_of h0 hb) h9)⟩
theorem mul64 {i j : Int} (ha : i.natAbs < 2 ^ 64) (hb : j.natAbs < 2 ^ 64) : CMulW i j := wide_mul ha hb (by decide) (by decide) (by decide)
theorem modP {i j : Int} (h : 0 < j) : 0 ≤ i.fmod j ∧ i.fmod j < j := by
  rw [Int.fmod_eq_emod_of_nonneg i (Int.le_of_lt h)]
  exact ⟨Int.emod_nonneg i (by omega), Int.emod_lt_of_pos i h⟩
/-- an own def by its promise -/
structure Own (P : Program) (w : World) (K : PySem.W.Frag) (mg : Str → Option Value) (base : Heap) (k : Nat) (x : Str) (ps : List Str) (sp : Sp) : Prop where
  ex : ∃ (f : Addr) (fd : FuncData), FnOk P w K mg base CX0 k f fd ps sp ∧ mg x = some (.ref f) ∧ PySem.W.keepIn K (.ref f) = true ∧ Binds K fd ps []
theorem pe_own {X : Cx} {k j : Nat} {x : Str} {ps : List Str} {sp : Sp} {e : Expr} {es : List Expr} {t : TA} {p pos : Pos} (O : Own X.prog X.w X.K X.mg X.base k x ps sp) (hr : Room j X.A) (hk : k ≤ j) (hg : Gl X x) (ha : PA X (e :: es) t)
    (hdb : (x == ("__debug__" : Str)) = false := by decide) (he : starEach (e :: es) X.env = (false, eval e X.env) :: starEach es X.env := by rfl) (hpl : (backTo pos (starEach es X.env)).any (·.1) = false := by rfl) :
    PE X (.Call (.Name x p) (e :: es) [] pos) (tCall sp [] E0 t) := by
  obtain ⟨f, fd, F, m, kp, b⟩ := O.ex
  exact pe_call F (hr.mono hk) hg m kp b .nil pass0 ha hdb he hpl
abbrev FnP (K : PySem.W.Frag) (x : Str) (st : Stmt) (f : Addr) (fd : FuncData) : Prop := FunD K x x (defArgs st) (defBody st) (defScope st) [] [] f fd
theorem own_of {P : Program} {w : World} {K : PySem.W.Frag} {mg : Str → Option Value} {base : Heap} {k : Nat} {x : Str} {ps : List Str} {sp : Sp} {st : Stmt} {f : Addr} {fd : FuncData} (F : FnP K x st f fd) (m : mg x = some (.ref f)) (G : FnOk P w K mg base CX0 k f fd ps sp)
    (h : ∀ (kV doc pm : Value) (an : Option Addr) (cdv ct : Value) (us : List Value), us.length = ps.length → bindArgs (PySem.W.fnOf x x (defArgs st) (defBody st) (defScope st) .none kV doc pm an cdv ct) ⟨us, []⟩ = pure (ps.zip us)) : Own P w K mg base k x ps sp :=
  ⟨f, fd, G, m, F.kp, F.bindsN h⟩
theorem ev_ix {K : PySem.W.Frag} {σ : L2.St} {H : Hp} {b : Addr} {xs : List V} {i : Int} {v : V} {j : Nat} (hs : σ[j]? = some (some (.ref b))) (hb : H b = some (.lst xs)) (ha : atI xs i = some v) : Ev (tOp (rIxL K) (tVar j) (tC (.int i))) σ H v :=
  ev_op (ev_var hs) ev_c (rv_ixL (sq_of hb) ha)
theorem ev_ixt {K : PySem.W.Frag} {σ : L2.St} {H : Hp} {b : Addr} {xs : List V} {i : Int} {v : V} {j : Nat} (hs : σ[j]? = some (some (.ref b))) (hb : SqT K H b xs) (ha : atI xs i = some v) : Ev (tOp (rIxT K) (tVar j) (tC (.int i))) σ H v :=
  ev_op (ev_var hs) ev_c (rv_ixT hb ha)
theorem ite_T {c : Bool} {A B : Prop} (hc : c = true) (h : A) : if c = true then A else B := by
  rw [if_pos hc]
  exact h
theorem ite_F {c : Bool} {A B : Prop} (hc : c = false) (h : B) : if c = true then A else B := by
  rw [hc, if_neg Bool.false_ne_true]
  exact h
/-! ### the bag that draws -/
structure BagAt (H : Hp) (b l : Addr) (ns : List Int) (n : Nat) : Prop where
  ex : ∃ (i : Nat) (z s : Int) (c : Nat), H b = some (.lst [.ref l, .int i, .int z, .int s, .int c]) ∧ i ≤ ns.length ∧ 0 ≤ s ∧ s < 2147483647 ∧ c ≤ n
  ls : H l = some (.lst (ns.map V.int))
  ne : b ≠ l
/-- all but the object at b stays -/
def But (H H' : Hp) (b : Addr) : Prop := ∀ a o, H a = some o → a ≠ b → H' a = some o
theorem But.refl {H : Hp} {b : Addr} : But H H b := fun _ _ e _ => e
theorem But.trans {H H1 H2 : Hp} {b : Addr} (x : But H H1 b) (y : But H1 H2 b) : But H H2 b := fun a o e n => y a o (x a o e n) n
theorem But.ex {H H1 H2 : Hp} {b : Addr} (x : But H H1 b) (y : Ex H1 H2) : But H H2 b := fun a o e n => y a o (x a o e n)
theorem But.of {H H1 : Hp} {b : Addr} (y : Ex H H1) : But H H1 b := fun a o e _ => y a o e
theorem But.upd {H H1 : Hp} {b : Addr} {u : HO} (x : But H H1 b) : But H (upd H1 b u) b := fun a o e n => by
  rw [upd_ne n]
  exact x a o e n
theorem BagAt.ext {H H1 : Hp} {b l : Addr} {ns : List Int} {n m : Nat} (B : BagAt H b l ns n) (e : Ex H H1) (h : n ≤ m) : BagAt H1 b l ns m := by
  obtain ⟨⟨i, z, s, c, h1, h2, h3, h4, h5⟩, h6, h7⟩ := B
  exact ⟨⟨i, z, s, c, e _ _ h1, h2, h3, h4, Nat.le_trans h5 h⟩, e _ _ h6, h7⟩
def spPull : Sp := fun vs H Q _ => ∃ (b l : Addr) (ns : List Int) (n : Nat) (many : Int), vs = [.ref b, .int many] ∧ BagAt H b l ns n ∧ n < 1000000 ∧ 0 < many ∧ many < 2 ^ 200 ∧
  ∀ (v : Int) (H' : Hp), 0 ≤ v → v < many → BagAt H' b l ns (n + 1) → But H H' b → Q (.int v) H'
def spBag (K : PySem.W.Frag) : Sp := fun vs H Q _ => ∃ (a : Addr) (ns : List Int), vs = [.ref a] ∧ SqL K H a (ns.map V.int) ∧ ns.length ≤ 63 ∧
  ∀ (b l : Addr) (H' : Hp), H b = none → H l = none → BagAt H' b l ns 0 → Ex H H' → Q (.ref b) H'
end Hs
namespace Hs
open PySem
def top (i : Nat) : Stmt := PySem.Challenge.pw_hueshade_k09_lamps_alone.main.body.getD i (.Pass ⟨0, 0, 0, 0⟩)
end Hs
namespace Hs
open PySem PySem.Spec PyProof.Rows L2 Evl
section
variable {P : Program} {w : World} {K : PySem.W.Frag} {mg : Str → Option Value} {base : Heap} {f : Addr} {fd : FuncData}
abbrev sPull : Stmt := top 106
theorem scPull : FnScope ["_law_bag_here", "_law_many", "_law_cell", "_law_got", "_law_wider"] ["_law_bag_here", "_law_many"] (defScope sPull) := ⟨rfl, rfl, rfl, by decide +kernel, rfl, by decide +kernel, by decide +kernel⟩
theorem ok_pull (F : FnP K "_law_pull" sPull f fd) (g_len : mg "len" = none) : FnOk P w K mg base CX0 1 f fd ["_law_bag_here", "_law_many"] spPull := by
  have nd := scPull.nd
  refine F.ok scPull (fun vs H Q E h => ?_) (fun cdv A outer s H vs Q E hr h => ⟨_, PSs.nox (Evl.pss_cut (ps_if (PW.pt (pw_and (pt_cmpR op_eq (pe_ix (r := rIxL K) ix_list (pv 0) pe_int (fun _ _ => rfl)) pe_int (nomark _)) (pw_and1 (pt_cmpR op_lt (pe_ix (r := rIxL K) ix_list (pv 0) pe_int (fun _ _ => rfl)) (pe_callB (r := Evl.rLenS K) call_len_seq (by rfl) g_len PySem.boot_len (pa_cons (pe_ix (r := rIxL K) ix_list (pv 0) pe_int (fun _ _ => rfl)) pa_nil)) (nomark _))))) (pss_cons (ps_set (i := 2) nd rfl (.inl rfl) (pe_ix (r := rIxL K) ix_list (pe_ix (r := rIxL K) ix_list (pv 0) pe_int (fun _ _ => rfl)) (pe_ix (r := rIxL K) ix_list (pv 0) pe_int (fun _ _ => rfl)) (fun _ _ => rfl)))
  (pss_cons (ps_asg (pe_op op_add (pe_ix (r := rIxL K) ix_list (pv 0) pe_int (fun _ _ => rfl)) pe_int) (pg_sub (pv 0) pe_int set_list))
  (pss_one (ps_if (pt_cmpR op_ge (pv 2) (pe_op op_pow pe_int pe_int) (nomark _)) (pss_one (ps_asg (pv 2) (pg_sub (pv 0) pe_int set_list))) (pss_one (ps_asg (pe_op op_modN (pe_op op_add (pe_op op_add (pe_op op_mulW (pe_ix (r := rIxL K) ix_list (pv 0) pe_int (fun _ _ => rfl)) pe_int) (pe_op op_modN (pv 2) pe_int)) pe_int) pe_int) (pg_sub (pv 0) pe_int set_list))))))) pss_nil)
  (pss_cons (ps_if (pt_cmpR op_gt (pe_ix (r := rIxL K) ix_list (pv 0) pe_int (fun _ _ => rfl)) pe_int (nomark _)) (pss_cons (ps_set (i := 3) nd rfl (.inl rfl) (pe_op op_modN (pe_ix (r := rIxL K) ix_list (pv 0) pe_int (fun _ _ => rfl)) (pv 1)))
  (pss_cons (ps_asg (pe_op Hs.op_fdivG (pe_ix (r := rIxL K) ix_list (pv 0) pe_int (fun _ _ => rfl)) (pv 1)) (pg_sub (pv 0) pe_int set_list))
  (pss_one (ps_ret (pv 3))))) pss_nil)
  (pss_cons (ps_asg (pe_op op_add (pe_ix (r := rIxL K) ix_list (pv 0) pe_int (fun _ _ => rfl)) pe_int) (pg_sub (pv 0) pe_int set_list))
  (pss_cons (ps_set (i := 4) nd rfl (.inl rfl) (pe_op op_add (pe_op op_mulW (pe_ix (r := rIxL K) ix_list (pv 0) pe_int (fun _ _ => rfl)) (pe_ix (r := rIxL K) ix_list (pv 0) pe_int (fun _ _ => rfl))) (pe_op op_mulW (pe_op op_mulW pe_int (pe_ix (r := rIxL K) ix_list (pv 0) pe_int (fun _ _ => rfl))) (pe_op op_add (pe_op op_modN (pe_ix (r := rIxL K) ix_list (pv 0) pe_int (fun _ _ => rfl)) pe_int) pe_int))))
  (pss_cons (ps_asg (pe_op op_modN (pe_op op_add (pe_op op_add (pv 4) (pe_op op_mulW (pe_op op_mulW (pe_ix (r := rIxL K) ix_list (pv 0) pe_int (fun _ _ => rfl)) (pe_ix (r := rIxL K) ix_list (pv 0) pe_int (fun _ _ => rfl))) (pe_ix (r := rIxL K) ix_list (pv 0) pe_int (fun _ _ => rfl)))) pe_int) pe_int) (pg_sub (pv 0) pe_int set_list))
  (pss_one (ps_ret (pe_op op_modN (pe_op op_add (pe_op Hs.op_fdivG (pe_ix (r := rIxL K) ix_list (pv 0) pe_int (fun _ _ => rfl)) pe_int) (pe_op op_mulW (pe_op op_modN (pe_ix (r := rIxL K) ix_list (pv 0) pe_int (fun _ _ => rfl)) pe_int) pe_int)) (pv 1))))))))), ?_⟩)
  · obtain ⟨b, l, ns, n, many, rfl, _⟩ := h
    rfl
  · obtain ⟨b, l, ns, n, many, rfl, B, hn, hm, hm2, k⟩ := h
    obtain ⟨⟨i, z, s0, c, hb, hi, h0, h1, hc⟩, hl, ne⟩ := B
    refine q_cut (M := fun σ' H' => ∃ v2, σ' = [some (.ref b), some (.int many), v2, none, none] ∧ H' l = some (.lst (ns.map V.int)) ∧ But H H' b ∧ ∃ (i : Nat) (z s : Int), H' b = some (.lst [.ref l, .int i, .int z, .int s, .int c]) ∧ i ≤ ns.length ∧ 0 ≤ s ∧ s < 2147483647) ?_ ?_
    · refine s_when (et_and (et_test (ev_op (ev_ix rfl hb rfl) ev_c (rv_eq rfl))) fun _ => et_test (ev_op (ev_ix rfl hb rfl) (ev_len (ev_ix rfl hb rfl) (sq_of hl)) rv_I0)) (fun ht H1 e1 => ?_) (fun ht H1 e1 => ?_)
      · have hlt : (i : Int) < ((ns.map V.int).length : Int) := by
          rw [Bool.and_eq_true] at ht
          exact of_decide_eq_true ht.2
        rw [List.length_map] at hlt
        have hit : i < ns.length := by omega
        have hg : (ns.map V.int)[i]? = some (V.int ns[i]) := by
          rw [List.getElem?_map, List.getElem?_eq_getElem hit] <;> rfl
        refine q_asg (ev_op (ev_ix rfl (e1 _ _ hb) rfl) (ev_ix rfl (e1 _ _ hb) rfl) (rv_ixL (sq_of (e1 _ _ hl)) (atI_nat hg))) fun H2 e2 => ?_
        have e12 := e1.trans e2
        refine q_setL (j := 1) (e12 _ _ hb) (ev_op (ev_ix rfl (e12 _ _ hb) rfl) ev_c rv_I0) (ev_var rfl) ev_c (by simp) fun H3 e3 => ?_
        have hb3 : (upd H3 b (.lst [.ref l, .int ((i : Int) + 1), .int z, .int s0, .int c])) b = some (.lst [.ref l, .int ((i + 1 : Nat) : Int), .int z, .int s0, .int c]) := upd_same
        have hl3 : (upd H3 b (.lst [.ref l, .int ((i : Int) + 1), .int z, .int s0, .int c])) l = some (.lst (ns.map V.int)) := by
          rw [upd_ne (Ne.symm ne)]
          exact (e12.trans e3) _ _ hl
        have bt3 : But H (upd H3 b (.lst [.ref l, .int ((i : Int) + 1), .int z, .int s0, .int c])) b := But.upd (.of (e12.trans e3))
        refine s_if (et_test (ev_op (ev_var rfl) (ev_op ev_c ev_c (rv_I ⟨by decide, by decide, by decide⟩)) rv_I0)) (fun ht2 H4 e4 => ?_) (fun ht2 H4 e4 => ?_)
        · refine s_setL (j := 2) (e4 _ _ hb3) (ev_var rfl) (ev_var rfl) ev_c (by simp) fun H5 e5 => ?_
          refine ⟨_, rfl, ?_, But.upd ((bt3.ex e4).ex e5), i + 1, ns[i], s0, upd_same, hit, h0, h1⟩
          rw [upd_ne (Ne.symm ne)]
          exact (e4.trans e5) _ _ hl3
        · refine s_setL (j := 3) (e4 _ _ hb3) (ev_op (ev_op (ev_op (ev_op (ev_ix rfl (e4 _ _ hb3) rfl) ev_c (rv_I (mul64 (by omega) (by decide)))) (ev_op (ev_var rfl) ev_c (rv_I (show (2147483563 : Int) ≠ 0 by decide))) rv_I0) ev_c rv_I0) ev_c (rv_I (show (2147483629 : Int) ≠ 0 by decide))) (ev_var rfl) ev_c (by simp) fun H5 e5 => ?_
          have hp := modP (i := s0 * 40503 + (ns[i]).fmod 2147483563 + 1) (j := 2147483629) (by decide)
          refine ⟨_, rfl, ?_, But.upd ((bt3.ex e4).ex e5), i + 1, z, _, upd_same, hit, hp.1, by omega⟩
          rw [upd_ne (Ne.symm ne)]
          exact (e4.trans e5) _ _ hl3
      · exact ⟨none, rfl, e1 _ _ hl, .of e1, i, z, s0, e1 _ _ hb, hi, h0, h1⟩
    · rintro σ' H1 ⟨v2, rfl, hl1, bt1, i, z, s0, hb1, hi, h0, h1⟩
      refine q_when (et_test (ev_op (ev_ix rfl hb1 rfl) ev_c rv_I0)) (fun ht H2 e2 => ?_) (fun ht H2 e2 => ?_)
      · refine q_asg (ev_op (ev_ix rfl (e2 _ _ hb1) rfl) (ev_var rfl) (rv_I (show many ≠ 0 by omega))) fun H3 e3 => ?_
        have e23 := e2.trans e3
        refine q_setL (j := 2) (e23 _ _ hb1) (ev_op (ev_ix rfl (e23 _ _ hb1) rfl) (ev_var rfl) (rv_I (divG (b := 200) (by omega) (by omega) (by decide) (by decide)))) (ev_var rfl) ev_c (by simp) fun H4 e4 => ?_
        have hp := modP (i := z) (j := many) hm
        refine s_ret (ev_var rfl) fun H5 e5 => k _ _ hp.1 hp.2 ?_ ((But.upd (bt1.ex (e23.trans e4))).ex e5)
        refine BagAt.ext (n := n + 1) ⟨⟨i, _, s0, c, upd_same, hi, h0, h1, by omega⟩, ?_, ne⟩ e5 (Nat.le_refl _)
        rw [upd_ne (Ne.symm ne)]
        exact (e23.trans e4) _ _ hl1
      · refine q_setL (j := 4) (e2 _ _ hb1) (ev_op (ev_ix rfl (e2 _ _ hb1) rfl) ev_c rv_I0) (ev_var rfl) ev_c (by simp) fun H3 e3 => ?_
        have hb3 : (upd H3 b (.lst [.ref l, .int i, .int z, .int s0, .int ((c : Int) + 1)])) b = some (.lst [.ref l, .int i, .int z, .int s0, .int ((c : Int) + 1)]) := upd_same
        have hl3 : (upd H3 b (.lst [.ref l, .int i, .int z, .int s0, .int ((c : Int) + 1)])) l = some (.lst (ns.map V.int)) := by
          rw [upd_ne (Ne.symm ne)]
          exact (e2.trans e3) _ _ hl1
        have bt3 : But H (upd H3 b (.lst [.ref l, .int i, .int z, .int s0, .int ((c : Int) + 1)])) b := But.upd (bt1.ex (e2.trans e3))
        have hp1 := modP (i := s0) (j := 8191) (by decide)
        refine q_asg (ev_op (ev_op (ev_ix rfl hb3 rfl) (ev_ix rfl hb3 rfl) (rv_I (mul64 (by omega) (by omega)))) (ev_op (ev_op ev_c (ev_ix rfl hb3 rfl) (rv_I (mul64 (by decide) (by omega)))) (ev_op (ev_op (ev_ix rfl hb3 rfl) ev_c (rv_I (show (8191 : Int) ≠ 0 by decide))) ev_c rv_I0) (rv_I (mul64 (by omega) (by omega)))) rv_I0) fun H4 e4 => ?_
        have hcc : ((c : Int) + 1) * ((c : Int) + 1) ≤ 1000000 * 1000000 := Int.mul_le_mul (by omega) (by omega) (by omega) (by decide)
        have hcd : 0 ≤ ((c : Int) + 1) * ((c : Int) + 1) := Int.mul_nonneg (by omega) (by omega)
        refine q_setL (j := 3) (e4 _ _ hb3) (ev_op (ev_op (ev_op (ev_var rfl) (ev_op (ev_op (ev_ix rfl (e4 _ _ hb3) rfl) (ev_ix rfl (e4 _ _ hb3) rfl) (rv_I (mul64 (by omega) (by omega)))) (ev_ix rfl (e4 _ _ hb3) rfl) (rv_I (mul64 (by omega) (by omega)))) rv_I0) ev_c rv_I0) ev_c (rv_I (show (2147483629 : Int) ≠ 0 by decide))) (ev_var rfl) ev_c (by simp) fun H5 e5 => ?_
        generalize hs' : Int.fmod _ 2147483629 = s1
        have hs1 : 0 ≤ s1 ∧ s1 < 2147483629 := by
          rw [← hs']
          exact modP (by decide)
        have hp2 := modP (i := s1) (j := 7919) (by decide)
        refine s_ret (ev_op (ev_op (ev_op (ev_ix rfl upd_same rfl) ev_c (rv_I (divG (b := 64) (by decide) (by decide) (by decide) (by decide)))) (ev_op (ev_op (ev_ix rfl upd_same rfl) ev_c (rv_I (show (7919 : Int) ≠ 0 by decide))) ev_c (rv_I (mul64 (by omega) (by decide)))) rv_I0) (ev_var rfl) (rv_I (show many ≠ 0 by omega))) fun H6 e6 => ?_
        have hp := modP (i := s1.fdiv 71 + s1.fmod 7919 * 37) (j := many) hm
        refine k _ _ hp.1 hp.2 ?_ ((But.upd (bt3.ex (e4.trans e5))).ex e6)
        refine BagAt.ext (n := n + 1) ⟨⟨i, z, s1, c + 1, upd_same, hi, hs1.1, by omega, by omega⟩, ?_, ne⟩ e6 (Nat.le_refl _)
        rw [upd_ne (Ne.symm ne)]
        exact (e4.trans e5) _ _ hl3
end
end Hs
namespace Hs
open PySem PySem.Spec PyProof.Rows L2 Evl
theorem cut63 {xs : List V} (h : xs.length ≤ 63) : cutV xs none (some 63) = xs := by
  have e1 : HT.sIx xs.length 0 none = 0 := rfl
  have e2 : HT.sIx xs.length xs.length (some 63) = xs.length := by
    show min (63 : Int).toNat xs.length = xs.length
    omega
  unfold cutV
  rw [e1, e2, List.drop_zero, Nat.sub_zero, List.take_length]
section
variable {P : Program} {w : World} {K : PySem.W.Frag} {mg : Str → Option Value} {base : Heap} {f : Addr} {fd : FuncData}
abbrev sBag : Stmt := top 105
theorem scBag : FnScope ["_law_script", "_law_salt", "_law_cell"] ["_law_script"] (defScope sBag) := ⟨rfl, rfl, rfl, by decide +kernel, rfl, by decide +kernel, by decide +kernel⟩
theorem ok_bag (F : FnP K "_law_bag" sBag f fd) (g_len : mg "len" = none) (g_list : mg "list" = none) : FnOk P w K mg base CX0 1 f fd ["_law_script"] (spBag K) := by
  have nd := scBag.nd
  refine F.ok scBag (fun vs H Q E h => ?_) (fun cdv A outer s H vs Q E hr h => ⟨_, PSs.nox (pss_cons (ps_set (i := 1) nd rfl (.inl rfl) (pe_op op_add pe_int (pe_callB (r := Evl.rLenS K) call_len_seq (by rfl) g_len PySem.boot_len (pa_cons (pe_slice sl_list (pv 0) po_none (po_some pe_int)) pa_nil))))
  (pss_cons (ps_for PassesOwn.never rfl (pi_list (pe_slice sl_list (pv 0) po_none (po_some pe_int))) (pg_name (i := 2) nd rfl (.inl rfl)) (pss_one (ps_set (i := 1) nd rfl (.inl rfl) (pe_op op_modN (pe_op op_add (pe_op op_add (pe_op op_mulW (pv 1) pe_int) (pe_op op_modN (pv 2) pe_int)) pe_int) pe_int))))
  (pss_one (ps_ret (pe_lst (pa_cons (pe_callTy (r := Evl.rListS K) call_list_of (by rfl) g_list (by decide +kernel) (pa_cons (pe_slice sl_list (pv 0) po_none (po_some pe_int)) pa_nil)) (pa_cons pe_int (pa_cons pe_int (pa_cons (pv 1) (pa_cons pe_int pa_nil)))))))))), ?_⟩)
  · obtain ⟨a, ns, rfl, _⟩ := h
    rfl
  · obtain ⟨a, ns, rfl, hS, hl, k⟩ := h
    have hl2 : (ns.map V.int).length ≤ 63 := by rw [List.length_map]; exact hl
    have sl : ∀ {σ : L2.St} {H' : Hp}, σ[0]? = some (some (.ref a)) → Ex H H' → EvL (tSl (rSlL K) (tVar 0) tNoPart (tPart (tC (.int 63)))) σ H' (ns.map V.int) := fun {σ H'} h0 e => by
      have q := el_sl (K := K) (σ := σ) (H := H') (ev_var h0) eo_none (eo_some (i := 63) ev_c) (ex_l e hS)
      rw [cut63 hl2] at q
      exact q
    refine q_asg (ev_op ev_c (ev_lenN (sl rfl (Ex.refl H))) rv_I0) fun H1 e1 => ?_
    refine q_forNLn (sl rfl e1) (fun p i σ' H' => Ex H H' ∧ H' p = some (.lst (ns.map V.int)) ∧ ∃ (s0 : Int) (v : Option V), σ' = [some (.ref a), some (.int s0), v] ∧ 0 ≤ s0 ∧ s0 < 2147483647) ?_ ?_ ?_ ?_
    · intro p H2 hp e2 h2
      exact ⟨e1.trans e2, h2, _, none, rfl, by omega, by omega⟩
    · rintro p i σ' H' hi ⟨_, h, _⟩
      exact sq_of h
    · rintro p i x σ' H' hx ⟨e, h, s0, v, rfl, h0, h1⟩
      obtain ⟨z, rfl⟩ : ∃ z, x = V.int z := by
        rw [List.getElem?_map] at hx
        cases ez : ns[i]? with
        | none =>
          rw [ez] at hx
          cases hx
        | some z =>
          rw [ez] at hx
          exact ⟨z, (Option.some.inj hx).symm⟩
      refine s_asg (ev_op (ev_op (ev_op (ev_op (ev_var rfl) ev_c (rv_I (mul64 (by omega) (by decide)))) (ev_op (ev_var rfl) ev_c (rv_I (show (2147483629 : Int) ≠ 0 by decide))) rv_I0) ev_c rv_I0) ev_c (rv_I (show (2147483647 : Int) ≠ 0 by decide))) fun H2 e2 => ?_
      have hp := modP (i := s0 * 48271 + z.fmod 2147483629 + 7) (j := 2147483647) (by decide)
      exact ⟨e.trans e2, e2 _ _ h, _, _, rfl, hp.1, hp.2⟩
    · rintro p σ' H' ⟨e, h, s0, v, rfl, h0, h1⟩
      refine sl (σ := [some (.ref a), some (.int s0), v]) rfl e H' (Ex.refl _) _ fun q H2 hq e2 h2 => ⟨q, _, rfl, .inl (sq_of h2), fun l hl3 => ⟨_, rfl, sz_of (by simp), fun b hb3 => ?_⟩⟩
      have hne : l ≠ b := fun z => by
        rw [← z, upd_same] at hb3
        cases hb3
      have e3 : Ex H (upd H2 l (.lst (ns.map V.int))) := (e.trans e2).trans (Ex.new hl3)
      refine k b l _ (fresh_back e3 hb3) (fresh_back (e.trans e2) hl3) ⟨⟨0, 0, s0, 0, upd_same, Nat.zero_le _, h0, h1, Nat.le_refl _⟩, ?_, Ne.symm hne⟩ (e3.trans (Ex.new hb3))
      rw [upd_ne hne, upd_same]
end
end Hs
namespace Hs
open PySem PySem.Spec PyProof.Rows L2 Evl
/-! ### two data alike: the law's own comparison -/
def Sm (K : PySem.W.Frag) (H : Hp) : Nat → V → V → Prop
  | 0, _, _ => False
  | d + 1, u, v => (u = v ∧ flatV u = true) ∨ ∃ (a b : Addr) (xs ys : List V), u = .ref a ∧ v = .ref b ∧ ((SqL K H a xs ∧ SqL K H b ys) ∨ (SqT K H a xs ∧ SqT K H b ys)) ∧ xs.length = ys.length ∧ xs.length ≤ 1000 ∧
      ∀ (i : Nat) (x y : V), xs[i]? = some x → ys[i]? = some y → Sm K H d x y
theorem Sm.ext {K : PySem.W.Frag} {H H' : Hp} (e : Ex H H') : ∀ {d : Nat} {u v : V}, Sm K H d u v → Sm K H' d u v
  | 0, _, _, h => h.elim
  | d + 1, u, v, h => by
    rcases h with h | ⟨a, b, xs, ys, h1, h2, h3, h4, h5, h6⟩
    · exact .inl h
    · refine .inr ⟨a, b, xs, ys, h1, h2, ?_, h4, h5, fun i x y hx hy => Sm.ext e (h6 i x y hx hy)⟩
      rcases h3 with ⟨p, q⟩ | ⟨p, q⟩
      · exact .inl ⟨ex_l e p, ex_l e q⟩
      · exact .inr ⟨ex_t e p, ex_t e q⟩
def spSame (K : PySem.W.Frag) (d : Nat) : Sp := fun vs H Q _ => ∃ u v : V, vs = [u, v] ∧ Sm K H d u v ∧ RetV (.bl true) H Q
/-- of the built-in type t, whatever is new -/
def Ty (K : PySem.W.Frag) (H : Hp) (x : V) (t : String) : Prop := ∀ H1, Ex H H1 → TyX K H1 x (.type t)
theorem ty_l {K : PySem.W.Frag} {H : Hp} {a : Addr} {xs : List V} (h : SqL K H a xs) : Ty K H (.ref a) "list" := fun H1 e => by
  rcases ex_l e h with (h | ⟨o, h⟩) | ⟨o, its, n, h1, h2, _⟩
  · exact .base (.lst h)
  · exact .base (.frz h)
  · exact .kList h1 h2
theorem ty_t {K : PySem.W.Frag} {H : Hp} {a : Addr} {xs : List V} (h : SqT K H a xs) : Ty K H (.ref a) "tuple" := fun H1 e => by
  rcases ex_t e h with (h | ⟨o, h⟩) | ⟨o, its, n, h1, h2, _⟩
  · exact .base (.tup h)
  · exact .fTuple h
  · exact .kTuple h1 h2
theorem ty_bl {K : PySem.W.Frag} {H : Hp} {b : Bool} : Ty K H (.bl b) "bool" := fun _ _ => .base (.bl b)
theorem ty_int {K : PySem.W.Frag} {H : Hp} {b : Int} : Ty K H (.int b) "int" := fun _ _ => .base (.int b)
theorem ty_str {K : PySem.W.Frag} {H : Hp} {b : Str} : Ty K H (.str b) "str" := fun _ _ => .base (.str b)
theorem ev_isi {K : PySem.W.Frag} {σ : L2.St} {H : Hp} {te : TE} {x : V} {t c : String} {b : Bool} (h : Ev te σ H x) (ht : Ty K H x t) (hk : kitB t c = some b) : Ev (tCB (rIsi K) (tCons te (tCons (tC (.ty c)) tNil))) σ H (.bl b) := fun H1 e Q q =>
  h H1 e _ fun H2 e2 => ⟨x, .ty c, .type t, .type c, b, rfl, .ty c, ht H2 (e.trans e2), kit_ty hk, q H2 e2⟩
theorem ev_isi2 {K : PySem.W.Frag} {σ : L2.St} {H : Hp} {te : TE} {x : V} {t c c' : String} {b b' : Bool} (h : Ev te σ H x) (ht : Ty K H x t) (hk : kitB t c = some b) (hk' : kitB t c' = some b') :
    Ev (tCB (rIsiT K) (tCons te (tCons (tTup (tCons (tC (.ty c)) (tCons (tC (.ty c')) tNil))) tNil))) σ H (.bl (b || b')) := fun H1 e Q q =>
  h H1 e _ fun H2 e2 => ⟨sz_of (by simp), fun p hp => ⟨x, p, [.ty c, .ty c'], .type t, [.type c, .type c'], b || b', rfl, upd_same, .cons (.ty c) (.cons (.ty c') .nil), ht _ ((e.trans e2).trans (Ex.new hp)), by
    refine kitAny_cons (kit_ty hk) (fun hb => ?_) (fun hb => by rw [hb] <;> rfl)
    rw [hb, Bool.false_or]
    exact kitAny_cons (kit_ty hk') (fun hb' => by rw [hb']; exact kitAny_nil) (fun hb' => hb'), q _ (e2.trans (Ex.new hp))⟩⟩
theorem rv_ixQ {K : PySem.W.Frag} {H : Hp} {p : Addr} {xs : List V} {i : Int} {v : V} (h : SqL K H p xs ∨ SqT K H p xs) (ha : atI xs i = some v) : RV (rIx K) (.ref p) (.int i) H v := fun H1 e Q q => by
  rcases h with h | h
  · exact .inl (rv_ixL h ha H1 e Q q)
  · exact .inr (.inl (rv_ixT h ha H1 e Q q))
theorem ev_lenQ {K : PySem.W.Frag} {σ : L2.St} {H : Hp} {ta : TE} {p : Addr} {xs : List V} (ha : Ev ta σ H (.ref p)) (h : SqL K H p xs ∨ SqT K H p xs) : Ev (tCB (rLenS K) (tCons ta tNil)) σ H (.int (xs.length : Int)) := fun H1 e Q q =>
  ha H1 e _ fun H2 e2 => ⟨p, xs, rfl, h.imp (fun h => ex_l (e.trans e2) h) (fun h => ex_t (e.trans e2) h), q H2 e2⟩
theorem given_true (n : Nat) : given n (fun _ => true) (fun _ => V.bl true) = (List.replicate n true).map V.bl := by
  induction n with
  | zero => rfl
  | succ n ih =>
    rw [given_yes rfl, ih, List.replicate_succ', List.map_append] <;> rfl
theorem ev_allT {K : PySem.W.Frag} {σ : L2.St} {H : Hp} {te : TE} {n : Nat} (h : EvL te σ H (given n (fun _ => true) (fun _ => V.bl true))) : Ev (tCB (rAll K) (tCons te tNil)) σ H (.bl true) := fun H1 e Q q =>
  h H1 e _ fun p H2 _ e2 h2 => ⟨p, List.replicate n true, rfl, sq_of (by rw [h2, given_true]), by
    have e3 : (List.replicate n true).all id = true := by simp
    rw [e3]
    exact q H2 e2⟩
theorem kb_bool_bool : kitB "bool" "bool" = some true := by decide +kernel
theorem kb_bool_int : kitB "bool" "int" = some true := by decide +kernel
theorem kb_bool_str : kitB "bool" "str" = some false := by decide +kernel
theorem kb_bool_list : kitB "bool" "list" = some false := by decide +kernel
theorem kb_bool_tuple : kitB "bool" "tuple" = some false := by decide +kernel
theorem kb_int_bool : kitB "int" "bool" = some false := by decide +kernel
theorem kb_int_int : kitB "int" "int" = some true := by decide +kernel
theorem kb_int_str : kitB "int" "str" = some false := by decide +kernel
theorem kb_int_list : kitB "int" "list" = some false := by decide +kernel
theorem kb_int_tuple : kitB "int" "tuple" = some false := by decide +kernel
theorem kb_str_bool : kitB "str" "bool" = some false := by decide +kernel
theorem kb_str_int : kitB "str" "int" = some false := by decide +kernel
theorem kb_str_str : kitB "str" "str" = some true := by decide +kernel
theorem kb_str_list : kitB "str" "list" = some false := by decide +kernel
theorem kb_str_tuple : kitB "str" "tuple" = some false := by decide +kernel
theorem kb_list_bool : kitB "list" "bool" = some false := by decide +kernel
theorem kb_list_int : kitB "list" "int" = some false := by decide +kernel
theorem kb_list_str : kitB "list" "str" = some false := by decide +kernel
theorem kb_list_list : kitB "list" "list" = some true := by decide +kernel
theorem kb_list_tuple : kitB "list" "tuple" = some false := by decide +kernel
theorem kb_tuple_bool : kitB "tuple" "bool" = some false := by decide +kernel
theorem kb_tuple_int : kitB "tuple" "int" = some false := by decide +kernel
theorem kb_tuple_str : kitB "tuple" "str" = some false := by decide +kernel
theorem kb_tuple_list : kitB "tuple" "list" = some false := by decide +kernel
theorem kb_tuple_tuple : kitB "tuple" "tuple" = some true := by decide +kernel
section
variable {P : Program} {w : World} {K : PySem.W.Frag} {mg : Str → Option Value} {base : Heap} {f : Addr} {fd : FuncData}
abbrev sSame : Stmt := top 107
theorem scSame : FnScope ["_law_got", "_law_due", "_law_k"] ["_law_got", "_law_due"] (defScope sSame) := ⟨rfl, rfl, rfl, by decide +kernel, rfl, by decide +kernel, by decide +kernel⟩
theorem ok_same (F : FnP K "_law_same" sSame f fd) (m : mg "_law_same" = some (.ref f)) (g_len : mg "len" = none) (g_isinstance : mg "isinstance" = none) (g_bool : mg "bool" = none) (g_int : mg "int" = none) (g_str : mg "str" = none) (g_list : mg "list" = none) (g_tuple : mg "tuple" = none)
    (g_all : mg "all" = none) (g_range : mg "range" = none) : ∀ d, FnOk P w K mg base CX0 d f fd ["_law_got", "_law_due"] (spSame K d)
  | 0 => ⟨fun _ _ _ _ h => by
      obtain ⟨u, v, _, h, _⟩ := h
      exact h.elim, fun _ _ _ _ _ _ _ _ _ _ _ _ _ h => by
      obtain ⟨u, v, _, h, _⟩ := h
      exact h.elim⟩
  | d + 1 => by
    have O__law_same : Own P w K mg base d "_law_same" ["_law_got", "_law_due"] (spSame K d) := own_of F m (ok_same F m g_len g_isinstance g_bool g_int g_str g_list g_tuple g_all g_range d) fun _ _ _ _ _ _ us hl => match us, hl with | [_, _], _ => rfl
    have nd := scSame.nd
    refine F.ok scSame (fun vs H Q E h => ?_) (fun cdv A outer s H vs Q E hr h => ⟨_, PSs.nox (pss_cons (ps_if (PW.pt (pw_or (pt_cmpR op_isN (pv 1) pe_non (nomark _)) (pw_or1 (pt_cmpR op_isN (pv 0) pe_non (nomark _))))) (pss_one (ps_ret (pe_and (pe_cmpR op_isN (pv 1) pe_non (nomark _)) (pe_one (pe_cmpR op_isN (pv 0) pe_non (nomark _)))))) pss_nil)
  (pss_cons (ps_if (PW.pt (pw_or (pt_val (pe_callB (r := rIsi K) call_isi (by rfl) g_isinstance (by decide +kernel) (pa_cons (pv 1) (pa_cons (pe_bltn (v := .ty "bool") (by rfl) g_bool (by decide +kernel) rfl) pa_nil)))) (pw_or1 (pt_val (pe_callB (r := rIsi K) call_isi (by rfl) g_isinstance (by decide +kernel) (pa_cons (pv 0) (pa_cons (pe_bltn (v := .ty "bool") (by rfl) g_bool (by decide +kernel) rfl) pa_nil))))))) (pss_one (ps_ret (pe_and (pe_callB (r := rIsi K) call_isi (by rfl) g_isinstance (by decide +kernel) (pa_cons (pv 1) (pa_cons (pe_bltn (v := .ty "bool") (by rfl) g_bool (by decide +kernel) rfl) pa_nil))) (pe_and (pe_callB (r := rIsi K) call_isi (by rfl) g_isinstance (by decide +kernel) (pa_cons (pv 0) (pa_cons (pe_bltn (v := .ty "bool") (by rfl) g_bool (by decide +kernel) rfl) pa_nil))) (pe_one (pe_cmpR op_eq (pv 0) (pv 1) (nomark _))))))) pss_nil)
  (pss_cons (ps_if (pt_val (pe_callB (r := rIsiT K) call_isiT (by rfl) g_isinstance (by decide +kernel) (pa_cons (pv 1) (pa_cons (pe_tup (pa_cons (pe_bltn (v := .ty "int") (by rfl) g_int (by decide +kernel) rfl) (pa_cons (pe_bltn (v := .ty "str") (by rfl) g_str (by decide +kernel) rfl) pa_nil))) pa_nil)))) (pss_one (ps_ret (pe_and (pe_cmpR op_eq (pe_callB (r := rIsi K) call_isi (by rfl) g_isinstance (by decide +kernel) (pa_cons (pv 0) (pa_cons (pe_bltn (v := .ty "int") (by rfl) g_int (by decide +kernel) rfl) pa_nil))) (pe_callB (r := rIsi K) call_isi (by rfl) g_isinstance (by decide +kernel) (pa_cons (pv 1) (pa_cons (pe_bltn (v := .ty "int") (by rfl) g_int (by decide +kernel) rfl) pa_nil))) (nomark _)) (pe_one (pe_cmpR op_eq (pv 0) (pv 1) (nomark _)))))) pss_nil)
  (pss_cons (ps_if (PW.pt (pw_or (pt_cmpR op_ne (pe_callB (r := rIsi K) call_isi (by rfl) g_isinstance (by decide +kernel) (pa_cons (pv 1) (pa_cons (pe_bltn (v := .ty "list") (by rfl) g_list (by decide +kernel) rfl) pa_nil))) (pe_callB (r := rIsi K) call_isi (by rfl) g_isinstance (by decide +kernel) (pa_cons (pv 0) (pa_cons (pe_bltn (v := .ty "list") (by rfl) g_list (by decide +kernel) rfl) pa_nil))) (nomark _)) (pw_or1 (pt_cmpR op_ne (pe_callB (r := rIsi K) call_isi (by rfl) g_isinstance (by decide +kernel) (pa_cons (pv 1) (pa_cons (pe_bltn (v := .ty "tuple") (by rfl) g_tuple (by decide +kernel) rfl) pa_nil))) (pe_callB (r := rIsi K) call_isi (by rfl) g_isinstance (by decide +kernel) (pa_cons (pv 0) (pa_cons (pe_bltn (v := .ty "tuple") (by rfl) g_tuple (by decide +kernel) rfl) pa_nil))) (nomark _))))) (pss_one (ps_ret pe_bl)) pss_nil)
  (pss_one (ps_ret (pe_and (pe_cmpR op_eq (pe_callB (r := Evl.rLenS K) call_len_seq (by rfl) g_len PySem.boot_len (pa_cons (pv 0) pa_nil)) (pe_callB (r := Evl.rLenS K) call_len_seq (by rfl) g_len PySem.boot_len (pa_cons (pv 1) pa_nil)) (nomark _)) (pe_one (pe_callB (r := rAll K) (cr_all rfl) (by rfl) g_all (by decide +kernel) (pa_cons (pe_lc (own := [("_law_k", 2)]) rfl nd (pi_range1 (by rfl) g_range (pa_cons (pe_callB (r := Evl.rLenS K) call_len_seq (by rfl) g_len PySem.boot_len (pa_cons (pv 1) pa_nil)) pa_nil)) (blkOk_by (N := ["_law_got", "_law_due", "_law_k"]) (sc := defScope (Hs.top 107)) (by decide +kernel)) (fun _ _ _ _ _ => (pg_name (i := 2) nd rfl (Or.inl rfl))) (fun _ _ _ _ _ => pts_nil) (fun _ _ _ _ _ => (Hs.pe_own O__law_same hr (by first | decide | omega) (by rfl) (pa_cons (pe_ix (r := rIx K) ix_seq (pv 0) (pv 2) (fun _ _ => rfl)) (pa_cons (pe_ix (r := rIx K) ix_seq (pv 1) (pv 2) (fun _ _ => rfl)) pa_nil))))) pa_nil)))))))))), ?_⟩)
    · obtain ⟨u, v, rfl, _⟩ := h
      rfl
    · obtain ⟨u, v, rfl, h, k⟩ := h
      rcases h with ⟨rfl, hf⟩ | ⟨a, b, xs, ys, rfl, rfl, hq, hlen, hz, hi⟩
      · cases u with
        | non =>
          refine q_when (et_or (et_test (ev_op (ev_var rfl) ev_c (rv_val fun H1 _ Q q => ⟨rfl, q⟩))) (fun _ => et_test (ev_op (ev_var rfl) ev_c (rv_val fun H1 _ Q q => ⟨rfl, q⟩)))) (fun ht H1 e1 => ?_) (fun ht => by simp at ht)
          exact s_ret (ev_is (ev_andV (ev_op (ev_var rfl) ev_c (rv_val fun H1 _ Q q => ⟨rfl, q⟩)) (fun _ => ev_op (ev_var rfl) ev_c (rv_val fun H1 _ Q q => ⟨rfl, q⟩))) (by simp)) fun H2 e2 => k _ (e1.trans e2)
        | bl y =>
          refine q_when (b := false) (et_is (et_or (et_test (ev_op (ev_var rfl) ev_c (rv_val fun H1 _ Q q => ⟨rfl, q⟩))) (fun _ => et_test (ev_op (ev_var rfl) ev_c (rv_val fun H1 _ Q q => ⟨rfl, q⟩)))) (by simp)) (fun ht => Bool.noConfusion ht) (fun _ H1 e1 => ?_)
          refine q_when (b := true) (et_is (et_or (et_B (ev_isi (ev_var rfl) ty_bl kb_bool_bool)) (fun _ => et_B (ev_isi (ev_var rfl) ty_bl kb_bool_bool))) (by simp)) (fun _ H2 e2 => ?_) (fun ht => Bool.noConfusion ht)
          exact s_ret (ev_is (ev_andV (ev_isi (ev_var rfl) ty_bl kb_bool_bool) (fun _ => ev_andV (ev_isi (ev_var rfl) ty_bl kb_bool_bool) (fun _ => ev_op (ev_var rfl) (ev_var rfl) (rv_eq rfl)))) (by simp)) fun H3 e3 => k _ ((e1.trans e2).trans e3)
        | int i =>
          refine q_when (b := false) (et_is (et_or (et_test (ev_op (ev_var rfl) ev_c (rv_val fun H1 _ Q q => ⟨rfl, q⟩))) (fun _ => et_test (ev_op (ev_var rfl) ev_c (rv_val fun H1 _ Q q => ⟨rfl, q⟩)))) (by simp)) (fun ht => Bool.noConfusion ht) (fun _ H1 e1 => ?_)
          refine q_when (b := false) (et_is (et_or (et_B (ev_isi (ev_var rfl) ty_int kb_int_bool)) (fun _ => et_B (ev_isi (ev_var rfl) ty_int kb_int_bool))) (by simp)) (fun ht => Bool.noConfusion ht) (fun _ H2 e2 => ?_)
          refine q_when (b := true) (et_is (et_B (ev_isi2 (ev_var rfl) ty_int kb_int_int kb_int_str)) (by simp)) (fun _ H3 e3 => ?_) (fun ht => Bool.noConfusion ht)
          exact s_ret (ev_is (ev_andV (ev_op (ev_isi (ev_var rfl) ty_int kb_int_int) (ev_isi (ev_var rfl) ty_int kb_int_int) (rv_eq rfl)) (fun _ => ev_op (ev_var rfl) (ev_var rfl) (rv_eq rfl))) (by simp)) fun H4 e4 => k _ (((e1.trans e2).trans e3).trans e4)
        | str x =>
          refine q_when (b := false) (et_is (et_or (et_test (ev_op (ev_var rfl) ev_c (rv_val fun H1 _ Q q => ⟨rfl, q⟩))) (fun _ => et_test (ev_op (ev_var rfl) ev_c (rv_val fun H1 _ Q q => ⟨rfl, q⟩)))) (by simp)) (fun ht => Bool.noConfusion ht) (fun _ H1 e1 => ?_)
          refine q_when (b := false) (et_is (et_or (et_B (ev_isi (ev_var rfl) ty_str kb_str_bool)) (fun _ => et_B (ev_isi (ev_var rfl) ty_str kb_str_bool))) (by simp)) (fun ht => Bool.noConfusion ht) (fun _ H2 e2 => ?_)
          refine q_when (b := true) (et_is (et_B (ev_isi2 (ev_var rfl) ty_str kb_str_int kb_str_str)) (by simp)) (fun _ H3 e3 => ?_) (fun ht => Bool.noConfusion ht)
          exact s_ret (ev_is (ev_andV (ev_op (ev_isi (ev_var rfl) ty_str kb_str_int) (ev_isi (ev_var rfl) ty_str kb_str_int) (rv_eq rfl)) (fun _ => ev_op (ev_var rfl) (ev_var rfl) (rv_eq rfl))) (by simp)) fun H4 e4 => k _ (((e1.trans e2).trans e3).trans e4)
        | _ => cases hf
      · have ta : ∀ {H' : Hp}, Ex H H' → (Ty K H' (.ref a) "list" ∧ Ty K H' (.ref b) "list") ∨ (Ty K H' (.ref a) "tuple" ∧ Ty K H' (.ref b) "tuple") := fun {H'} e => by
          rcases hq with ⟨p, q⟩ | ⟨p, q⟩
          · exact .inl ⟨ty_l (ex_l e p), ty_l (ex_l e q)⟩
          · exact .inr ⟨ty_t (ex_t e p), ty_t (ex_t e q)⟩
        have qa : ∀ {H' : Hp}, Ex H H' → SqL K H' a xs ∨ SqT K H' a xs := fun {H'} e => hq.imp (fun h => ex_l e h.1) (fun h => ex_t e h.1)
        have qb : ∀ {H' : Hp}, Ex H H' → SqL K H' b ys ∨ SqT K H' b ys := fun {H'} e => hq.imp (fun h => ex_l e h.2) (fun h => ex_t e h.2)
        refine q_when (b := false) (et_is (et_or (et_test (ev_op (ev_var rfl) ev_c (rv_val fun H1 _ Q q => ⟨rfl, q⟩))) (fun _ => et_test (ev_op (ev_var rfl) ev_c (rv_val fun H1 _ Q q => ⟨rfl, q⟩)))) (by simp)) (fun ht => Bool.noConfusion ht) (fun _ H1 e1 => ?_)
        have t2 : ∀ {σ : L2.St} {H' : Hp}, σ[0]? = some (some (.ref a)) → σ[1]? = some (some (.ref b)) → Ex H H' → Ev (tCB (rIsi K) (tCons (tVar 1) (tCons (tC (.ty "bool")) tNil))) σ H' (.bl false) ∧ Ev (tCB (rIsi K) (tCons (tVar 0) (tCons (tC (.ty "bool")) tNil))) σ H' (.bl false) ∧
            Ev (tCB (rIsiT K) (tCons (tVar 1) (tCons (tTup (tCons (tC (.ty "int")) (tCons (tC (.ty "str")) tNil))) tNil))) σ H' (.bl false) ∧
            ∃ b1 b2, Ev (tCB (rIsi K) (tCons (tVar 1) (tCons (tC (.ty "list")) tNil))) σ H' (.bl b1) ∧ Ev (tCB (rIsi K) (tCons (tVar 0) (tCons (tC (.ty "list")) tNil))) σ H' (.bl b1) ∧ Ev (tCB (rIsi K) (tCons (tVar 1) (tCons (tC (.ty "tuple")) tNil))) σ H' (.bl b2) ∧ Ev (tCB (rIsi K) (tCons (tVar 0) (tCons (tC (.ty "tuple")) tNil))) σ H' (.bl b2) := fun {σ H'} h0 h1 e => by
          rcases ta e with ⟨p, q⟩ | ⟨p, q⟩
          · exact ⟨ev_isi (ev_var h1) q kb_list_bool, ev_isi (ev_var h0) p kb_list_bool, ev_isi2 (ev_var h1) q kb_list_int kb_list_str, true, false, ev_isi (ev_var h1) q kb_list_list, ev_isi (ev_var h0) p kb_list_list, ev_isi (ev_var h1) q kb_list_tuple, ev_isi (ev_var h0) p kb_list_tuple⟩
          · exact ⟨ev_isi (ev_var h1) q kb_tuple_bool, ev_isi (ev_var h0) p kb_tuple_bool, ev_isi2 (ev_var h1) q kb_tuple_int kb_tuple_str, false, true, ev_isi (ev_var h1) q kb_tuple_list, ev_isi (ev_var h0) p kb_tuple_list, ev_isi (ev_var h1) q kb_tuple_tuple, ev_isi (ev_var h0) p kb_tuple_tuple⟩
        obtain ⟨i1, i2, _⟩ := t2 (σ := [some (.ref a), some (.ref b), none]) rfl rfl e1
        refine q_when (b := false) (et_is (et_or (et_B i1) (fun _ => et_B i2)) (by simp)) (fun ht => Bool.noConfusion ht) (fun _ H2 e2 => ?_)
        obtain ⟨_, _, i3, _⟩ := t2 (σ := [some (.ref a), some (.ref b), none]) rfl rfl (e1.trans e2)
        refine q_when (b := false) (et_B i3) (fun ht => Bool.noConfusion ht) (fun _ H3 e3 => ?_)
        have e03 := (e1.trans e2).trans e3
        obtain ⟨_, _, _, b1, b2, j1, j2, j3, j4⟩ := t2 (σ := [some (.ref a), some (.ref b), none]) rfl rfl e03
        refine q_when (b := false) (et_is (et_or (et_test (ev_op j1 j2 (rv_ne rfl))) (fun _ => et_test (ev_op j3 j4 (rv_ne rfl)))) (by simp)) (fun ht => Bool.noConfusion ht) (fun _ H4 e4 => ?_)
        have e04 := e03.trans e4
        refine s_ret (ev_is (ev_andV (ev_op (ev_lenQ (ev_var rfl) (qa e04)) (ev_lenQ (ev_var rfl) (qb e04)) (rv_eq rfl)) (fun _ => ev_allT (n := ys.length) ?_)) (by simp [hlen])) fun H5 e5 => k _ (e04.trans e5)
        refine el_lcR1 (n := (ys.length : Int)) (fun _ => true) (fun _ => V.bl true) (ea_cons (ev_lenQ (ev_var rfl) (qb e04)) ea_nil) (by omega) (fun x => rfl) (fun i H6 e6 hi6 H7 e7 Q' q' => q' H7 (Ex.refl H7)) (fun i H6 e6 hi6 _ => ?_)
        have hiy : i < ys.length := by omega
        have hix : i < xs.length := by omega
        have gx : xs[i]? = some xs[i] := List.getElem?_eq_getElem hix
        have gy : ys[i]? = some ys[i] := List.getElem?_eq_getElem hiy
        have e06 := e04.trans e6
        exact ev_call (ea_cons (ev_op (ev_var rfl) (ev_var rfl) (rv_ixQ (qa e06) (atI_nat gx))) (ea_cons (ev_op (ev_var rfl) (ev_var rfl) (rv_ixQ (qb e06) (atI_nat gy))) ea_nil)) fun H7 e7 Q' q' E' => ⟨_, _, rfl, (hi i _ _ gx gy).ext (e06.trans e7), q'⟩
end
end Hs
namespace Hs
open PySem PySem.Spec PyProof.Rows L2
/-! ### own error classes whose __init__ begins with super().__init__(..) -/
section
open PySem.W
variable {prog : Program} {w : World} {A : Around} {E : Value → Shared → Prop} {h : Heap} {g : Array GenState} {d : Drawn} {t : Nat} {os : OsState}
variable {nm q : Str} {C N : Addr} {bs bm bmB : List Value} {hdct : Bool} {sn : List Str} {sub : List Value} {ab : Bool} {col : Option Bool} {dd : Option Addr} {k0 k1 k2 k3 k5 : Option Value} {B newId initId : String}
theorem call_mw (FB : ExcBaseFacts B newId initId bmB) {u e t0 : Addr} {rest : List Value} {Q : Value → Shared → Prop}
    (hC : h.get? C = some (excClassObj nm q C N bs bm hdct sn sub ab col dd k0 k1 k2 k3 k5 newId)) (he : h.get? e = some (HandSPX.excO C t0)) (hu : h.get? u = some (kxs_mw initId e)) (hrest : rest.length ≤ sizeLine)
    (hq : ∀ h' t1, (∀ b o, b ≠ e → h.get? b = some o → h'.get? b = some o) → h'.get? e = some (HandSPX.excO C t1) → Q .none ⟨h', g, d, t, os⟩) :
    wpAny (model prog w) A (call (.ref u) rest) Q E ⟨h, g, d, t, os⟩ := by
  refine wpAny_call (codeAny_of_tree ?_)
  show wpAny _ A.in1 (callAny (.ref u) ⟨rest, []⟩) _ _ _
  simp only [callAny]
  refine wpAny_bind (wpAny_load hu ?_)
  simp only [kxs_mw, show (Value.type "method-wrapper" == Value.type "method" || Value.type "method-wrapper" == Value.type "builtin_function_or_method" || Value.type "method-wrapper" == Value.type "method-wrapper") = true by decide, if_true]
  refine KFB.if_so (by decide) ?_
  refine wpAny_bind (ESX.check_bound FB hC he rfl ?_)
  refine wpAny_bind (wpAny_pure (wpAny_pure ?_))
  refine ⟨plainId_quiet FB.init.plain _, codeAny_builtin FB.initEntry ?_⟩
  exact exc_init_tree (cls := .ref C) (t0 := t0) (dv := none) (c2 := .none) (c3 := .none) (b4 := .bool false) he hrest fun h' k e' _ => hq h' _ k e'
end
end Hs
namespace Hs
open PySem PySem.Spec PyProof.Rows L2
/-! ### own errors over any of Python's plain bases -/
/-- what is known of a base of Python's -/
structure BasX (B newId initId : String) (bmB : List Value) : Prop where
  eb : ExcBaseFacts B newId initId bmB
  st : StoreFacts B bmB "object.__setattr__" "object"
  kx : PySem.W.KxsFacts B initId
abbrev tailOf (B : String) : List Value := [.type B, .type "Exception", .type "BaseException", .type "object"]
theorem basV : BasX "ValueError" "ValueError.__new__" "ValueError.__init__" (tailOf "ValueError") := ⟨F.excBase_ValueError, F.store_ValueError, PySem.W.kxs_ValueError⟩
theorem basR : BasX "RuntimeError" "RuntimeError.__new__" "RuntimeError.__init__" (tailOf "RuntimeError") := ⟨F.excBase_RuntimeError, F.store_RuntimeError, PySem.W.kxs_RuntimeError⟩
theorem basL : BasX "LookupError" "LookupError.__new__" "LookupError.__init__" (tailOf "LookupError") := ⟨F.excBase_LookupError, F.store_LookupError, PySem.W.kxs_LookupError⟩
/-- an own class over such a base, as it is written -/
structure OexG (K : PySem.W.Frag) (C : Addr) (newId : String) (bmB : List Value) : Prop where
  cls : ∃ nm q N bs bm sn sub ab col dd k0 k1 k2 k3 k5, K.lookup C = some (excClassObj nm q C N bs bm true sn sub ab col dd k0 k1 k2 k3 k5 newId) ∧ PySem.W.excTail bmB bm = true
  sa : PySem.W.findIn K (.ref C) "__setattr__" = some (some (.builtin "object.__setattr__"))
  exC : PySem.W.subIn K (.ref C) (.type "BaseException") = some true
  tyC : PySem.W.typeIn K (.ref C) = some (.type "type")
  kC : PySem.W.keepIn K (.ref C) = true
section
variable {K : PySem.W.Frag} {C : Addr} {newId : String} {bmB : List Value}
theorem OexG.over (T : OexG K C newId bmB) : PySem.W.excOver K C bmB = true := by
  obtain ⟨nm, q, N, bs, bm, sn, sub, ab, col, dd, k0, k1, k2, k3, k5, hC, ht⟩ := T.cls
  unfold PySem.W.excOver PySem.W.clsIn
  rw [hC]
  show ((C == C) && PySem.W.excTail bmB bm) = true
  simp [ht]
theorem OexG.cd (T : OexG K C newId bmB) : ∃ cd, PySem.W.clsIn K C = some cd ∧ cd.hasDict = true := by
  obtain ⟨nm, q, N, bs, bm, sn, sub, ab, col, dd, k0, k1, k2, k3, k5, hC, ht⟩ := T.cls
  refine ⟨{ name := nm, bases := bs, mro := .ref C :: bm, ns := N, qualname := q, hasDict := true, slotNames := sn, subclasses := sub, abstract := ab, collection := col, hasDel := false }, ?_, rfl⟩
  unfold PySem.W.clsIn
  rw [hC] <;> rfl
theorem taker_no {f : Str} (h : PySem.W.findIn K (.ref C) f = some none) : PySem.W.takerIn K C f = some none := by
  unfold PySem.W.takerIn
  rw [h] <;> rfl
end
section
open Builtin Builtin.ObjectAttr
variable {prog : Program} {w : World} {A : Around} {R : Result → Shared → Prop} {hp : Heap} {g : Array GenState} {d : Drawn} {t : Nat} {os : OsState} {K : PySem.W.Frag} {C x : Addr} {B newId initId : String} {bmB : List Value}
/-- the first field: the dict is made -/
theorem put_new (bx : BasX B newId initId bmB) (T : OexG K C newId bmB) (kin : K.In hp) {fl : Str} {tk : Tok} {u : Value} {fv : Array Value} (hx : hp.get? x = some { cls := .ref C, data := .fields fv }) (hno : PySem.W.findIn K (.ref C) fl = some none)
    (fin : ∀ hq tq dx, (∀ b o, b ≠ x → hp.get? b = some o → hq.get? b = some o) → hp.objs.size ≤ dx → dx ≠ x → hq.get? x = some { cls := .ref C, dict := some dx, data := .fields fv } → hq.Ns1 dx (fun y => if y = fl then some u else none) → R (.ok (.ret .none)) ⟨hq, g, d, tq, os⟩) :
    codeAny (model prog w) A (.call (.builtin "object.__setattr__") ⟨[.ref x, .str fl tk, u], []⟩) R ⟨hp, g, d, t, os⟩ := by
  obtain ⟨cd, hcd, hdc⟩ := T.cd
  have lk : PySem.W.Looks (model prog w) hp (classData C) cd := PySem.W.looks_clsIn kin hcd
  have far : x ≠ hp.objs.size := Nat.ne_of_lt (Heap.lt_size hx)
  refine PySem.W.osa_openX (s := ⟨hp, g, d, t, os⟩) (od := none) (ox := { cls := .ref C, data := .fields fv }) bx.st kin ⟨hx, rfl, rfl, trivial⟩ T.over (taker_no hno) fun bb => ?_
  obtain ⟨c1, c2, c3, c4, c5, c6, c7, c8, c9, c10, c11⟩ := cd
  dsimp only at hdc
  subst hdc
  unfold storeInOwnDict ownDictForStores
  repeat (first | with_reducible refine HandSPX.store_in_new ?_ ?_ | with_reducible refine wpAny_loadPart_at hx ?_ | with_reducible refine lk.at ?_ | wp_step)
  · exact ⟨_, #[], _, (Heap.get?_update_ne _ _ _ _ far.symm).trans (Heap.get?_push_at rfl rfl), rfl, fun z hz => absurd hz (by simp), fun _ => rfl⟩
  · intro hq tq hn sm
    have old : (hp.push { cls := .type "dict", data := .dict #[] }).get? x = some { cls := .ref C, data := .fields fv } := Heap.get?_push_of_some _ hx
    refine fin hq tq hp.objs.size (fun b o nb ho => ?_) (Nat.le_refl _) far.symm ((sm.2 x far).trans (Heap.get?_update_self _ old rfl)) hn
    rw [sm.2 b (Nat.ne_of_lt (Heap.lt_size ho)), Heap.get?_update_ne _ _ _ _ nb]
    exact Heap.get?_push_of_some _ ho
/-- a further field -/
theorem put_more (bx : BasX B newId initId bmB) (T : OexG K C newId bmB) (kin : K.In hp) {fl : Str} {tk : Tok} {u : Value} {fv : Array Value} {dx : Addr} {m0 : Str → Option Value} {nl : List Str} (hx : hp.get? x = some { cls := .ref C, dict := some dx, data := .fields fv }) (hns : hp.Ns1 dx m0) (hw : Within m0 nl) (hz : nl.length ≤ 1000) (hno : PySem.W.findIn K (.ref C) fl = some none)
    (fin : ∀ hq tq, (∀ b o, b ≠ dx → hp.get? b = some o → hq.get? b = some o) → hq.Ns1 dx (fun y => if y = fl then some u else m0 y) → R (.ok (.ret .none)) ⟨hq, g, d, tq, os⟩) :
    codeAny (model prog w) A (.call (.builtin "object.__setattr__") ⟨[.ref x, .str fl tk, u], []⟩) R ⟨hp, g, d, t, os⟩ := by
  obtain ⟨cd, hcd, hdc⟩ := T.cd
  have lk : PySem.W.Looks (model prog w) hp (classData C) cd := PySem.W.looks_clsIn kin hcd
  obtain ⟨oD, q1, q2, hoD, q3, q4⟩ := hns.count hw
  refine PySem.W.osa_openX (s := ⟨hp, g, d, t, os⟩) (od := some oD) (ox := { cls := .ref C, dict := some dx, data := .fields fv }) bx.st kin ⟨hx, rfl, rfl, hoD⟩ T.over (taker_no hno) fun bb => ?_
  obtain ⟨c1, c2, c3, c4, c5, c6, c7, c8, c9, c10, c11⟩ := cd
  dsimp only at hdc
  subst hdc
  unfold storeInOwnDict ownDictForStores
  repeat (first | with_reducible refine OEX.store_in_old hns hw hz ?_ | with_reducible refine wpAny_loadPart_at hx ?_ | with_reducible refine lk.at ?_ | wp_step)
  exact fun hq tq hn sm => fin hq tq (fun b o nb ho => (sm.2 b nb).trans ho) hn
end
section
variable {X : Cx} {pins : List (Addr × Obj)} {σ : L2.St} {H : Hp} {s : Shared} {a C dx : Addr} {fl : Str} {y : V} {u : Value} {fs : List (Str × V)} {Q : Unit → Shared → Prop} {E : Value → Shared → Prop} {A : Around} {B newId initId : String} {bmB : List Value}
theorem set_new (bx : BasX B newId initId bmB) (T : OexG X.K C newId bmB) (I : Inv X pins σ H s) (ea : H a = some (exo a C none)) (hno : PySem.W.findIn X.K (.ref C) fl = some none) (ry : RelV y u)
    (k : ∀ dx s', H dx = none → dx ≠ a → Inv X pins σ (upd (upd H dx (exd dx [(fl, y)])) a (exo a C (some dx))) s' → Q () s') : wpAny (model X.prog X.w) A (setAttr (.ref a) fl u) Q E s := by
  obtain ⟨t1, ho⟩ := exo_at I.hok ea
  obtain ⟨hp, g, d, t, os⟩ := s
  refine PySem.W.set_plain (od := none) I.kIn (ox := { cls := .ref C, dict := none, data := .fields #[.ref t1, .none, .none, .none, .bool false, .none] }) ⟨ho, rfl, rfl, trivial⟩ T.sa ?_
  refine put_new bx T I.kIn ho hno fun hq tq dx stay dn dne hx hn => ?_
  have fresh : H dx = none := I.hok.fresh dn
  have nda : ∀ {b : Addr}, H b = none → b ≠ a := fun nb z => by
    rw [z, ea] at nb
    cases nb
  have ndx : ∀ {b : Addr} {ob : Obj}, hp.get? b = some ob → b ≠ dx := fun qq => Nat.ne_of_lt (Nat.lt_of_lt_of_le (Heap.lt_size qq) dn)
  have two : ∀ {b : Addr} {v : HO}, H b = some v → exo a C none ≠ v → upd (upd H dx (exd dx [(fl, y)])) a (exo a C (some dx)) b = some v := fun {b v} hb hne => by
    rw [upd_ne (at_ne ea hb hne), upd_ne (ne_of_none hb fresh)]
    exact hb
  have un : Un X.fs [] H (upd (upd H dx (exd dx [(fl, y)])) a (exo a C (some dx))) hp hq := by
    constructor
    · exact fun b o hb nb _ _ => stay b o (nda nb) hb
    · exact fun b o hb nb _ _ => ⟨o.slots, stay b o (nda nb) hb⟩
    · intro b o hb nb _
      rw [upd_ne (nda nb), upd_ne (ndx hb)]
      exact nb
    · intro b o hb _
      by_cases e : b = a
      · rw [e]
        exact ⟨_, hx⟩
      · exact ⟨o, stay b o e hb⟩
    · exact fun b xs hb => two hb exo_tup
    · exact fun b o v hb => two hb exo_frz
    · intro b ps hb
      refine ⟨#[], ?_⟩
      rw [two hb exo_tbl, Array.append_empty]
  refine k dx _ fresh dne (I.un (t' := tq) un fun b o hb => ?_)
  by_cases e1 : b = a
  · rw [e1, upd_same] at hb
    cases hb
    rw [e1]
    exact exo_ok hx
  · rw [upd_ne e1] at hb
    by_cases e2 : b = dx
    · rw [e2, upd_same] at hb
      cases hb
      rw [e2]
      exact exd_ok hn (relO_put (fs := []) ry fun _ => True.intro)
    · rw [upd_ne e2] at hb
      refine (I.hok b o hb).stay (fun c v hc hv => stay c v ?_ hv) (fun c hc => two hc exo_own) (fun c xs hc => two hc exo_tup)
      rcases hc with rfl | hc
      · exact e1
      · exact at_ne ea hc exo_own
theorem set_more (bx : BasX B newId initId bmB) (T : OexG X.K C newId bmB) (I : Inv X pins σ H s) (ea : H a = some (exo a C (some dx))) (ed : H dx = some (exd dx fs)) (hl : fs.length ≤ 900) (hno : PySem.W.findIn X.K (.ref C) fl = some none) (ry : RelV y u)
    (k : ∀ s', Inv X pins σ (upd H dx (exd dx ((fl, y) :: fs))) s' → Q () s') : wpAny (model X.prog X.w) A (setAttr (.ref a) fl u) Q E s := by
  obtain ⟨t1, ho⟩ := exo_at I.hok ea
  obtain ⟨mA, hns, rel⟩ := exd_at I.hok ed
  obtain ⟨oD, _, _, hoD, _, _⟩ := hns.count (within_of rel)
  obtain ⟨hp, g, d, t, os⟩ := s
  refine PySem.W.set_plain (od := some oD) I.kIn (ox := { cls := .ref C, dict := some dx, data := .fields #[.ref t1, .none, .none, .none, .bool false, .none] }) ⟨ho, rfl, rfl, hoD⟩ T.sa ?_
  refine put_more bx T I.kIn ho hns (within_of rel) (by rw [List.length_map]; omega) hno fun hq tq stay hn => k _ ?_
  refine I.write (t' := tq) (x := dx) (e := dx) (by rw [ed]; exact True.intro) (.inl rfl) stay ?_ (exd_ok hn (relO_put ry rel))
  obtain ⟨oq, _, _, hoq, _⟩ := hn
  exact ⟨oq, hoq⟩
end
/-- self.f = e, of an error that is being made -/
def tPut (K : PySem.W.Frag) (newId : String) (bmB : List Value) (fl : Str) (to te : TE) : TS := fun D σ H => te σ H fun y H1 => to σ H1 fun x H2 => ∃ a C : Addr, x = .ref a ∧ OexG K C newId bmB ∧ PySem.W.findIn K (.ref C) fl = some none ∧
  ((H2 a = some (exo a C none) ∧ ∀ dx, H2 dx = none → dx ≠ a → D.nx σ (upd (upd H2 dx (exd dx [(fl, y)])) a (exo a C (some dx)))) ∨
    ∃ (dx : Addr) (fs : List (Str × V)), (H2 a = some (exo a C (some dx)) ∧ H2 dx = some (exd dx fs) ∧ fs.length ≤ 900) ∧ D.nx σ (upd H2 dx (exd dx ((fl, y) :: fs))))
theorem ps_put {X : Cx} {o e : Expr} {to te : TE} {fl : Str} {p' pos : Pos} {B newId initId : String} {bmB : List Value} (bx : BasX B newId initId bmB) (ho : PE X o to) (he : PE X e te) (hs : swapsWith e (some (.Attribute o fl p')) pos.line X.env = pure false := by rfl) : PS X (.Assign [.Attribute o fl p'] e pos) (tPut X.K newId bmB fl to te) := by
  refine ⟨fun pins s σ H D I h => ?_⟩
  refine plainObj_wpAny_Assign_Attribute (thn (he.run pins s σ H _ I h) fun v s1 ⟨y, H1, I1, r1, q1⟩ => thn (ho.run pins s1 σ H1 _ I1 q1) fun ux s2 ⟨x, H2, I2, r2, hh⟩ => ?_) hs
  obtain ⟨a, C, rfl, T, hno, q⟩ := hh
  obtain rfl : ux = Value.ref a := r2
  rcases q with ⟨ea, q⟩ | ⟨dx, fs, ⟨ea, ed, hl⟩, q⟩
  · exact set_new bx T I2 ea hno r1 fun dx s' n ne J => ⟨σ, _, J, q dx n ne⟩
  · exact set_more bx T I2 ea ed hl hno r1 fun s' J => ⟨σ, _, J, q⟩
end Hs
namespace Hs
open PySem PySem.Spec PyProof.Rows L2
/-- what the written part says of an own error class over ValueError, of its __init__ and of what super() asks -/
structure SupC (P : Program) (K : PySem.W.Frag) (mg : Str → Option Value) (C c cc : Addr) (B newId initId : String) (bmB : List Value) : Prop where
  ox : OexG K C newId bmB
  code : ∃ (ccl : Value) (cdd : Option Addr) (vs : Array Value) (ccs : Array (Option Value)) (file : Str) (tf : Tok), K.lookup c = some ⟨ccl, cdd, .fields vs, ccs⟩ ∧ vs[2]? = some (.str file tf) ∧ ((P.main.file : Str) == file) = true
  cell : ∃ (cl : Value) (cld : Option Addr) (csl : Array (Option Value)), K.lookup cc = some ⟨cl, cld, .cell (some (.ref C)), csl⟩
  me : PySem.W.mroIn K C (.ref C) = some true
  sup : PySem.W.ks_superIn K C C "__init__" = some (some (.builtin initId))
  ve : PySem.W.subIn K (.ref C) (.type B) = some true
  op : PySem.W.nsIn K cStatics "thirdparty.any" = some none
  gs : mg "super" = none
  top : (P.main.scope.names.lookup ("super" : Str)).isSome = false
theorem sup_walk {X : Cx} {σ : L2.St} {H : Hp} {s : Shared} {C f c cc a : Addr} {fd : FuncData} {oc : Value} {od : Option Addr} {osl : Array (Option Value)} {ar : Arg} {body : List Stmt} {p0 p1 p2 p3 pos0 : Pos} {e : Expr} {ta : TA} {R : Hp → Prop} {pl : Sem Bool}
    {B newId initId : String} {bmB : List Value} (bx : BasX B newId initId bmB) (T : SupC X.prog X.K X.mg C c cc B newId initId bmB) (I : Inv X [] σ H s) (lk : X.K.lookup f = some ⟨oc, od, .func fd, osl⟩) (hp : (fd.params.posonlyargs ++ fd.params.args).head? = some ar)
    (hfu : X.env.func = some f) (hco : X.env.code = .ref c) (hce : X.env.cells.lookup ("__class__" : Str) = some cc) (hks : X.env.kindOf "super" = some .globalImplicit) (hkc : X.env.kindOf "__class__" = some .free) (hN0 : X.N[0]? = some ar.arg) (hl0 : X.env.kindOf ar.arg = some .local)
    (h0 : σ[0]? = some (some (.ref a))) (ea : H a = some (exo a C none)) (hPA : PA X [e] ta) (ht : ta σ H fun us H1 => us.length ≤ 1000 ∧ H1 a = some (exo a C none) ∧ R H1)
    (hst : starEach [e] X.env = [(false, eval e X.env)])
    (hi : interactive X.env = false := by rfl) (hsw : swapsWith (.Call (.Attribute (.Call (.Name "super" p0) [] [] p1) "__init__" p2) [e] [] p3) none pos0.line X.env = pure false := by rfl)
    (he : eval (.Call (.Attribute (.Call (.Name "super" p0) [] [] p1) "__init__" p2) [e] [] p3) X.env = (do
      let ov ← attributeBase (.Call (.Name "super" p0) [] [] p1) "__init__" X.env (eval (.Call (.Name "super" p0) [] [] p1) X.env)
      standAt p2.atName
      let (f, first) ← holding [ov] (getMethod ov "__init__" pl)
      callWith p3 f first (backTo p3 (starEach [e] X.env)) []) := by rfl) :
    _root_.PySem.wpAt (model X.prog X.w) X.A (.func body X.env) (exec (.Expr (.Call (.Attribute (.Call (.Name "super" p0) [] [] p1) "__init__" p2) [e] [] p3) pos0) X.env) (fun fl s' => fl = .next ∧ ∃ H1, Inv X [] σ H1 s' ∧ R H1) X.xe s := by
  obtain ⟨ccl, cdd, vsc, ccs, file, tf, hcode, hv2, hfile⟩ := T.code
  obtain ⟨cl0, cld0, csl0, hcell⟩ := T.cell
  obtain ⟨nm, q, Nn, bs, bm, sn, sub, ab, col, dd, k0, k1, k2, k3, k5, hC, hbm⟩ := T.ox.cls
  have hcl : PySem.W.clsIn X.K C = some { name := nm, bases := bs, mro := .ref C :: bm, ns := Nn, qualname := q, hasDict := true, slotNames := sn, subclasses := sub, abstract := ab, collection := col, hasDel := false } := by unfold PySem.W.clsIn; rw [hC] <;> rfl
  have KX := I.kIn
  obtain ⟨t1, ho⟩ := exo_at I.hok ea
  have hkind := I.ok.kind
  obtain ⟨mb, hb1, hb2⟩ := I.mod.blt
  obtain ⟨m, hns, hloc⟩ := id I.loc
  obtain ⟨u0, ru, lk0⟩ := hloc 0 ar.arg (.ref a) hN0 h0 (.inl hl0)
  obtain rfl : u0 = Value.ref a := ru
  have hself : m ar.arg = some (.ref a) := by
    rcases lk0 with ⟨_, z⟩ | ⟨z | z, _⟩
    · exact z
    · rw [hl0] at z
      cases z
    · rw [hl0] at z
      cases z
  have hDo := KX _ _ hC
  obtain ⟨hp0, g0, d0, tk0, os0⟩ := s
  refine ks_wpAt_Expr_any (ks_wpAt_MethodCall (pl := pl) ?_ he) hi hsw
  refine ks_wpAt_super_base (env := X.env) hks hkc (by decide) hfu (KX _ _ lk) rfl hp hco (KX _ _ hcode) rfl hv2 hfile T.top ?_
  refine PySem.W.ks_loadName_global hkind hks (Calls.loadGlobal_builtin (env := X.env) (by rw [I.ok.glob]; exact I.mod.glob.keeps I.bk) T.gs (by rw [I.ok.blt]; exact hb1.keeps I.bk) ((hb2 "super" (by decide)).trans (by decide +kernel)) ⟨rfl, ?_⟩)
  refine wpAny_loadName_free hkind hkc hce ⟨_, KX _ _ hcell, rfl⟩ ?_
  refine wpAny_loadName_local hkind hl0 hns hself ?_
  refine ks_wpAny_isType_cls hDo rfl ⟨rfl, ?_⟩
  refine ks_wpAny_call_super hDo rfl ho rfl (fun _ z => by cases z) (PySem.W.looks_mroIn KX T.me) fun h1 e1 kp1 => ?_
  have I1 : Inv X [] σ H ⟨h1, g0, d0, tk0, os0⟩ := I.kept (t' := tk0) kp1
  have KX1 := I1.kIn
  obtain ⟨t2, ho1⟩ := exo_at I1.hok ea
  have hI : PySem.W.Looks (model X.prog X.w) h1 (isInstance (.ref a) (.type B)) true := (show PySem.W.InstAt h1 a _ C none from ⟨ho1, rfl, rfl, trivial⟩).type.andThen (PySem.W.looks_subIn KX1 T.ve)
  have hmro : PySem.W.Looks (model X.prog X.w) h1 (mroOf (.ref C)) (.ref C :: bm) := (PySem.W.looks_clsIn KX1 hcl).andThen .now
  have hsupr := T.sup
  unfold PySem.W.ks_superIn at hsupr
  rw [hcl] at hsupr
  have hxC : a ≠ C := fun z => by
    have w1 := KX1 _ _ hC
    rw [← z, ho1] at w1
    cases w1
  refine PySem.W.kxs_getMethod bx.kx e1 (PySem.W.looks_opaque KX1 T.op) hmro rfl KX1 hsupr hI hxC (by decide) ?_
  have kp2 : ∀ b o, h1.get? b = some o → (h1.push (PySem.W.kxs_mw initId a)).get? b = some o := fun b o z => Heap.get?_push_of_some _ z
  have I2 : Inv X [] σ H ⟨h1.push (PySem.W.kxs_mw initId a), g0, d0, tk0 + 1, os0⟩ := I1.kept (t' := tk0 + 1) kp2
  have hu2 : (h1.push (PySem.W.kxs_mw initId a)).get? h1.objs.size = some (PySem.W.kxs_mw initId a) := Heap.get?_push_at rfl rfl
  have nu : H h1.objs.size = none := I1.hok.fresh (Nat.le_refl _)
  have I3 : Inv X [(h1.objs.size, PySem.W.kxs_mw initId a)] σ H ⟨h1.push (PySem.W.kxs_mw initId a), g0, d0, tk0 + 1, os0⟩ := I2.pins_of fun p hp => by
    rcases List.mem_cons.mp hp with z | z
    · subst z
      exact ⟨hu2, nu, fun z => Nat.lt_irrefl _ (z ▸ I1.lt), I1.nofs (Nat.le_refl _), fun v z => by cases z⟩
    · cases z
  show wpAny _ _ (callWith p3 (.ref h1.objs.size) [] (backTo p3 (starEach [e] X.env)) []) _ _ _
  have run := hPA.run p3 _ _ σ H _ I3 ht
  rw [hst] at run ⊢
  refine PySem.W.kxs_callWith (i := initId) (x := a) rfl (Calls.evalArgs_plain (wpAny_mono run (fun us s2 z => ?_) fun _ _ z => z))
  obtain ⟨vs2, H2, I4, r4, hz, ea2, hR⟩ := z
  have hu4 := (I4.pin (h1.objs.size, PySem.W.kxs_mw initId a) (List.mem_append_right _ (List.mem_cons_self ..))).1
  obtain ⟨t4, ho4⟩ := exo_at I4.hok ea2
  have hlen : us.length ≤ sizeLine := by
    rw [← Paired.length r4, sizeLine_eq]
    omega
  obtain ⟨hp4, g4, d4, tk4, os4⟩ := s2
  refine ⟨hu4, call_mw bx.eb (I4.kIn _ _ hC) ho4 hu4 hlen fun h' t5 k5 hx5 => ⟨rfl, H2, ?_, hR⟩⟩
  have J := I4.write (t' := tk4) (x := a) (e := a) (o := exo a C none) (by rw [ea2]; exact True.intro) (.inl rfl) k5 ⟨_, hx5⟩ (exo_ok hx5)
  have eu : upd H2 a (exo a C none) = H2 := by
    funext b
    by_cases hb : b = a
    · rw [hb, upd_same, ea2]
    · rw [upd_ne hb]
  rw [eu] at J
  exact J.pins_of fun p hp => by cases hp
theorem sup_ok {P : Program} {w : World} {K : PySem.W.Frag} {mg : Str → Option Value} {base : Heap} {k : Nat} {N ps : List Str} {C f c cc : Addr} {name qual : Str} {params : Arguments} {p0 p1 p2 p3 pos0 : Pos} {e : Expr} {rest : List Stmt} {scope : Scope}
    {dV kV doc pm ct oc : Value} {an od : Option Addr} {osl : Array (Option Value)} {ar : Arg} {sp : Sp} {pl : Addr → Sem Bool} {B newId initId : String} {bmB : List Value} (bx : BasX B newId initId bmB) (T : SupC P K mg C c cc B newId initId bmB)
    (lk : K.lookup f = some ⟨oc, od, .func (PySem.W.fnX name qual params (.Expr (.Call (.Attribute (.Call (.Name "super" p0) [] [] p1) "__init__" p2) [e] [] p3) pos0 :: rest) scope [("__class__", cc)] dV kV doc pm an (.ref c) ct), osl⟩)
    (hcd : PySem.W.codeIn K (.ref c) qual = true) (S : NdefX.NScope N ps ["__class__"] scope) (hks : scope.names.lookup ("super" : Str) = some .globalImplicit)
    (hp : (params.posonlyargs ++ params.args).head? = some ar) (hN0 : N[0]? = some ar.arg) (hl0 : scope.names.lookup ar.arg = some .local) (len : ∀ vs H Q E, sp vs H Q E → vs.length = ps.length)
    (hbody : ∀ (A : Around) (outer : List Env) (s : Shared) (H : Hp) (vs : List V) (Q : VK) (E : XK), Room k (A.deeper (NdefX.envF ⟨name, qual, params, [], scope, [("__class__", cc)], c⟩ f s.heap.objs.size)) → sp vs H Q E →
      ∃ (a : Addr) (ta : TA) (t : TS), (NdefX.startF N vs [none])[0]? = some (some (.ref a)) ∧ H a = some (exo a C none) ∧ PA (NdefX.ncx CX0 P w K mg base N ⟨name, qual, params, [], scope, [("__class__", cc)], c⟩ f A outer s H E).nox [e] ta ∧
        PSs (NdefX.ncx CX0 P w K mg base N ⟨name, qual, params, [], scope, [("__class__", cc)], c⟩ f A outer s H E).nox rest t ∧
        ta (NdefX.startF N vs [none]) H fun us H1 => us.length ≤ 1000 ∧ H1 a = some (exo a C none) ∧ t { nx := fun _ H' => Q .non H', rt := Q } (NdefX.startF N vs [none]) H1)
    (hst : ∀ env : Env, starEach [e] env = [(false, eval e env)]) (hi : ∀ L : Addr, interactive (NdefX.envF ⟨name, qual, params, [], scope, [("__class__", cc)], c⟩ f L) = false)
    (hsw : ∀ L : Addr, swapsWith (.Call (.Attribute (.Call (.Name "super" p0) [] [] p1) "__init__" p2) [e] [] p3) none pos0.line (NdefX.envF ⟨name, qual, params, [], scope, [("__class__", cc)], c⟩ f L) = pure false)
    (he : ∀ L : Addr, eval (.Call (.Attribute (.Call (.Name "super" p0) [] [] p1) "__init__" p2) [e] [] p3) (NdefX.envF ⟨name, qual, params, [], scope, [("__class__", cc)], c⟩ f L) = (do
      let ov ← attributeBase (.Call (.Name "super" p0) [] [] p1) "__init__" (NdefX.envF ⟨name, qual, params, [], scope, [("__class__", cc)], c⟩ f L) (eval (.Call (.Name "super" p0) [] [] p1) (NdefX.envF ⟨name, qual, params, [], scope, [("__class__", cc)], c⟩ f L))
      standAt p2.atName
      let (ff, first) ← holding [ov] (getMethod ov "__init__" (pl L))
      callWith p3 ff first (backTo p3 (starEach [e] (NdefX.envF ⟨name, qual, params, [], scope, [("__class__", cc)], c⟩ f L))) [])) :
    FnOk P w K mg base CX0 (k + 1) f (PySem.W.fnX name qual params (.Expr (.Call (.Attribute (.Call (.Name "super" p0) [] [] p1) "__init__" p2) [e] [] p3) pos0 :: rest) scope [("__class__", cc)] dV kV doc pm an (.ref c) ct) ps sp := by
  refine ⟨len, fun A outer s H args us vs Q E hr e0 hb r hsp => ?_⟩
  have hl := len _ _ _ _ hsp
  have bk : ∀ b o, base.get? b = some o → s.heap.get? b = some o := fun b o e => (e0.bs b o e).1
  have KX : K.In s.heap := e0.mod.kin.keeps bk
  have lim : s.heap.NoLimit := e0.mod.nolimit.keeps bk
  obtain ⟨cl0, cld0, csl0, hcell⟩ := T.cell
  have CA : NdefX.CellsAt [(("__class__" : Str), cc)] ["__class__"] [none] s.heap H := by
    have bc := e0.mod.kin cc _ hcell
    have z := e0.bs cc _ bc
    have only : ∀ y c', ([(("__class__" : Str), cc)] : List (Str × Addr)).lookup y = some c' → y = "__class__" ∧ c' = cc := fun y c' h => by
      have m := PySem.mem_of_lookup h
      rcases List.mem_cons.mp m with q | q
      · injection q with q1 q2
        exact ⟨q1, q2⟩
      · cases q
    refine ⟨rfl, fun y c' h => ?_, fun x y c' h1 h2 => (only x c' h1).1.trans (only y c' h2).1.symm, fun i y h => ?_⟩
    · obtain ⟨_, rfl⟩ := only y c' h
      exact ⟨z.2, _, _, z.1, rfl⟩
    · cases i with
      | zero =>
        have e : "__class__" = y := Option.some.inj h
        subst e
        exact ⟨cc, by simp [List.lookup], fun v hv => by cases hv⟩
      | succ i => cases h
  obtain ⟨a, ta, t, h0, hHa, hPA, hPS, ht⟩ := hbody A outer s H vs Q E (hr.deeper _) hsp
  refine ks_codeAny_call_defAt (binds := ps.zip us) hr.depth (KX _ _ lk) rfl lim (PySem.W.codeRec_of KX hcd) rfl hb S.nocell (fun ⟨n, _⟩ hy => S.par n (List.of_mem_zip hy).1) (fun h₁ hns kp => ?_) S.co S.gen S.kind
  have I : Inv (NdefX.ncx CX0 P w K mg base N ⟨name, qual, params, [], scope, [("__class__", cc)], c⟩ f A outer s H E).nox [] (NdefX.startF N vs [none]) H { s with heap := h₁, toks := s.toks + (ps.zip us).length } :=
    (NdefX.inv_startN (F := ⟨name, qual, params, [], scope, [("__class__", cc)], c⟩) S hr.hd e0 hl r CA hns kp).wish _
  refine ks_wpAt_execs_cons (ks_wpAt_mono (sup_walk (X := (NdefX.ncx CX0 P w K mg base N ⟨name, qual, params, [], scope, [("__class__", cc)], c⟩ f A outer s H E).nox) (R := fun H1 => t { nx := fun _ H' => Q .non H', rt := Q } (NdefX.startF N vs [none]) H1)
    bx T I lk hp rfl rfl rfl hks (S.frk _ (by simp)) hN0 hl0 h0 hHa hPA ht (hst _) (hi _) (hsw _) (he _)) (fun fl s' z => ?_) fun _ _ z => z.elim)
  obtain ⟨rfl, H1, J, hR⟩ := z
  refine wpAt_of_wpAny (wpAny_mono (hPS.run [] s' _ H1 _ J hR) (fun fl s2 z => ?_) fun _ _ z => z.elim)
  have fin : ∀ {σ' : L2.St} {H' : Hp} {v : V} {u : Value}, Inv (NdefX.ncx CX0 P w K mg base N ⟨name, qual, params, [], scope, [("__class__", cc)], c⟩ f A outer s H E).nox [] σ' H' s2 → RelV v u → Q v H' → CE outer P w H s Q u s2 :=
    fun {σ' H' v u} J rv q => ⟨v, H', J.os, J.bare, J.base, J.hok, rv, q⟩
  cases fl with
  | ret u =>
    obtain ⟨v, σ', H', J, rv, q⟩ := z
    exact fin J rv q
  | next =>
    obtain ⟨σ', H', J, q⟩ := z
    exact fin (v := V.non) (u := Value.none) J rfl q
  | brk =>
    obtain ⟨_, _, _, q⟩ := z
    exact False.elim q
  | cont =>
    obtain ⟨_, _, _, q⟩ := z
    exact False.elim q
end Hs
namespace Hs
open PySem PySem.Spec PyProof.Rows L2 Evl
/-- C(), C's own __init__ keeping sp -/
theorem pmk_oex0 {X : Cx} {CX : CXT} {x : Str} {C fI : Addr} {k : Nat} {fd : FuncData} {ps : List Str} {sp : Sp} {ds : List Value} {dvs : List V} {p pos : Pos} {B newId initId : String} {bmB : List Value} (bx : BasX B newId initId bmB) (T : OexG X.K C newId bmB) (iC : PySem.W.findIn X.K (.ref C) "__init__" = some (some (.ref fI))) (tI : PySem.W.typeIn X.K (.ref fI) = some (.type "function"))
    (F1 : FnOk X.prog X.w X.K X.mg X.base CX k fI fd ps sp) (hr : Room (k + 1) X.A) (hb : Binds X.K fd ps ds) (hd : Vals dvs ds) (hx : Passes CX X (fun _ _ _ => False)) (hg : Gl X x) (hm : X.mg x = some (.ref C))
    (hdb : (x == ("__debug__" : Str)) = false := by decide) : PMk X (.Call (.Name x p) [] [] pos) (tMkO C sp dvs tNil) := by
  intro pins s σ H Q I h
  obtain ⟨nm, q, N, bs, bm, sn, sub, ab, col, dd, k0, k1, k2, k3, k5, hC, hbm⟩ := T.cls
  refine wpAny_Call_Name_kw (ld_glob I hg hm ?_ hdb)
  refine PySem.W.callWith_K0 I.kIn T.kC ?_
  show wpAny _ _ (call (.ref C) []) _ _ _
  obtain ⟨hp, g, dr, tk, os⟩ := s
  have hsz : hp.objs.size ≤ hp.objs.size + 1 := Nat.le_succ _
  have hn : H (hp.objs.size + 1) = none := I.hok.fresh hsz
  have hq := h.2 (hp.objs.size + 1) hn
  have kk : ∀ b o, hp.get? b = some o → ((hp.push (PySem.W.kdv_tup [])).push (PySem.HandSPX.excO C hp.objs.size)).get? b = some o := fun b o e => Heap.get?_push_of_some _ (Heap.get?_push_of_some _ e)
  have hget : ((hp.push (PySem.W.kdv_tup [])).push (PySem.HandSPX.excO C hp.objs.size)).get? (hp.objs.size + 1) = some (PySem.HandSPX.excO C hp.objs.size) := by heap_get
  have I2 : Inv X pins σ (upd H (hp.objs.size + 1) (exo (hp.objs.size + 1) C none)) ⟨(hp.push (PySem.W.kdv_tup [])).push (PySem.HandSPX.excO C hp.objs.size), g, dr, tk, os⟩ :=
    I.laid (t' := tk) (a := hp.objs.size + 1) (o := exo (hp.objs.size + 1) C none) (h' := (hp.push (PySem.W.kdv_tup [])).push (PySem.HandSPX.excO C hp.objs.size)) kk hsz (exo_ok hget)
  have r2 : Vals (V.ref (hp.objs.size + 1) :: ([] ++ dvs)) ([Value.ref (hp.objs.size + 1)] ++ ds) := .cons rfl hd
  have hl : (Value.ref (hp.objs.size + 1) :: [] ++ ds).length = ps.length := by
    have e := r2.length
    rw [F1.len _ _ _ _ hq] at e
    exact e.symm
  refine wpAny_call (PySem.HandSPX.call_own bx.eb (fun Y => PySem.W.excTail_contains Y bm hbm) (I.kIn _ _ hC) (PySem.W.looks_findIn I.kIn iC) (fun self => PySem.W.bind_fn I.kIn self tI) (Nat.zero_le _)
    (codeAny_mono (F1.run _ X.stack _ _ ⟨[Value.ref (hp.objs.size + 1)], []⟩ ([Value.ref (hp.objs.size + 1)] ++ ds) _ _ (fun _ _ _ => False) (hr.make C [] []) (I2.env0.make C [] []) (hb _ [Value.ref (hp.objs.size + 1)] I2.kIn hl) r2 hq) fun r s' hq' => ?_))
  cases r with
  | error er => exact hx pins σ _ _ er s' I2 hq'
  | ok fl =>
    cases fl with
    | ret u =>
      obtain ⟨v, H2, os2, bare2, un2, hok2, rv, ev, d, fs, ea, ed, hd1, q2⟩ := hq'
      subst ev
      obtain ⟨h2, g2, d2, t2, os'⟩ := s'
      exact ⟨rv, mk_end (raises_own T.exC T.tyC) I hsz kk un2 hok2 os2 bare2 ea ed hd1 q2⟩
    | next => exact False.elim hq'
    | brk => exact False.elim hq'
    | cont => exact False.elim hq'
/-- __init__ of an error with its word alone -/
def spErr (C : Addr) (wd : Str) : Sp := fun vs H Q _ => ∃ (a : Addr) (y : V), vs = [.ref a, y] ∧ H a = some (exo a C none) ∧ ∀ dx, H dx = none → dx ≠ a → Q .non (upd (upd H dx (exd dx [("word", .str wd)])) a (exo a C (some dx)))
/-- raise C(): the word in the error's own dict -/
theorem mk_err {C : Addr} {wd : Str} {y : V} {σ : L2.St} {H : Hp} {Q : XK} (h : ∀ d H', Ex H H' → H d = none → H' d = some (.xd [("word", .str wd)]) → Q (.ref C) (some d) H') : tMkO C (spErr C wd) [y] tNil σ H Q := by
  refine ⟨Nat.zero_le _, fun a na => ⟨a, y, rfl, upd_same, fun dx nd ne => ⟨rfl, dx, [("word", .str wd)], upd_same, ?_, ?_, ?_⟩⟩⟩
  · rw [upd_ne ne, upd_same]
  · rw [upd_ne ne] at nd
    exact nd
  · have nd' : H dx = none := by
      rw [upd_ne ne] at nd
      exact nd
    refine h dx _ (fun b o e => ?_) nd' upd_same
    have nb : b ≠ dx := ne_of_none e nd'
    have na' : b ≠ a := ne_of_none e na
    rw [upd_ne nb, del_ne na', upd_ne na', upd_ne nb, upd_ne na']
    exact e
end Hs
namespace Hs
open PySem PySem.Spec PyProof.Rows L2 Evl
/-- an own error class x at C with the word wd alone, as it stands -/
structure ErrF (P : Program) (w : World) (K : PySem.W.Frag) (mg : Str → Option Value) (base : Heap) (k : Nat) (x : Str) (C : Addr) (wd : Str) : Prop where
  ox : ∃ (B newId initId : String) (bmB : List Value), BasX B newId initId bmB ∧ OexG K C newId bmB
  gx : mg x = some (.ref C)
  ini : ∃ (fI : Addr) (fd : FuncData) (ps : List Str) (y : V) (d : Value), PySem.W.findIn K (.ref C) "__init__" = some (some (.ref fI)) ∧ PySem.W.typeIn K (.ref fI) = some (.type "function") ∧ FnOk P w K mg base CX0 k fI fd ps (spErr C wd) ∧ RelV y d ∧ Binds K fd ps [d]
theorem pmk_err {X : Cx} {k j : Nat} {x : Str} {C : Addr} {wd : Str} {p pos : Pos} (Er : ErrF X.prog X.w X.K X.mg X.base k x C wd) (hr : Room j X.A) (hk : k + 1 ≤ j) (hg : Gl X x) (hdb : (x == ("__debug__" : Str)) = false := by decide) :
    PMk X (.Call (.Name x p) [] [] pos) (fun _ H Q => ∀ d H', Ex H H' → H d = none → H' d = some (.xd [("word", .str wd)]) → Q (.ref C) (some d) H') := by
  obtain ⟨fI, fd, ps, y, d, h1, h2, h3, h4, h5⟩ := Er.ini
  obtain ⟨B, newId, initId, bmB, bx, ox⟩ := Er.ox
  intro pins s σ H Q I h
  exact pmk_oex0 bx ox h1 h2 h3 (hr.mono hk) h5 (.cons h4 .nil) (fun _ _ _ _ _ _ _ z => z.elim) hg Er.gx hdb pins s σ H Q I (mk_err h)
/-- the def st of a class's body, closed over __class__ at cc, its code object at c -/
def InitAt (K : PySem.W.Frag) (qual : Str) (st : Stmt) (f c cc : Addr) (dvs : List V) (fd : FuncData) : Prop :=
  ∃ (oc : Value) (od : Option Addr) (dV kV doc pm : Value) (an : Option Addr) (ct : Value) (osl : Array (Option Value)), fd = PySem.W.fnX "__init__" qual (defArgs st) (defBody st) (defScope st) [("__class__", cc)] dV kV doc pm an (.ref c) ct ∧
    K.lookup f = some ⟨oc, od, .func fd, osl⟩ ∧ PySem.W.codeIn K (.ref c) qual = true ∧ DflV K dV dvs
/-- __init__(self, why=..): super().__init__(why); self.word = '..' -/
theorem err_ok {P : Program} {w : World} {K : PySem.W.Frag} {mg : Str → Option Value} {base : Heap} {C f c cc : Addr} {fd : FuncData} {qual wd : Str} {st : Stmt} {y : V} {p0 p1 p2 p3 p4 pos0 p5 p6 p7 p8 : Pos} {kd : Nat} {ar : Arg} {B newId initId : String} {bmB : List Value} (bx : BasX B newId initId bmB) (T : SupC P K mg C c cc B newId initId bmB) (I0 : InitAt K qual st f c cc [y] fd)
    (hno : PySem.W.findIn K (.ref C) "word" = some none)
    (hbd : defBody st = [.Expr (.Call (.Attribute (.Call (.Name "super" p0) [] [] p1) "__init__" p2) [.Name "why" p4] [] p3) pos0, .Assign [.Attribute (.Name "self" p5) "word" p6] (.Constant (.str wd) kd p7) p8])
    (S : NdefX.NScope ["self", "why", "__class__"] ["self", "why"] ["__class__"] (defScope st)) (hks : (defScope st).names.lookup ("super" : Str) = some .globalImplicit)
    (hp : ((defArgs st).posonlyargs ++ (defArgs st).args).head? = some ar) (har : ar.arg = "self") (hl0 : (defScope st).names.lookup ("self" : Str) = some .local) (hl1 : (defScope st).names.lookup ("why" : Str) = some .local) {pl : Addr → Sem Bool}
    (hi : ∀ L : Addr, interactive (NdefX.envF ⟨"__init__", qual, defArgs st, [], defScope st, [("__class__", cc)], c⟩ f L) = false)
    (hsw : ∀ L : Addr, swapsWith (.Call (.Attribute (.Call (.Name "super" p0) [] [] p1) "__init__" p2) [.Name "why" p4] [] p3) none pos0.line (NdefX.envF ⟨"__init__", qual, defArgs st, [], defScope st, [("__class__", cc)], c⟩ f L) = pure false)
    (hs2 : ∀ L : Addr, swapsWith (.Constant (.str wd) kd p7) (some (.Attribute (.Name "self" p5) "word" p6)) p8.line (NdefX.envF ⟨"__init__", qual, defArgs st, [], defScope st, [("__class__", cc)], c⟩ f L) = pure false)
    (he : ∀ L : Addr, eval (.Call (.Attribute (.Call (.Name "super" p0) [] [] p1) "__init__" p2) [.Name "why" p4] [] p3) (NdefX.envF ⟨"__init__", qual, defArgs st, [], defScope st, [("__class__", cc)], c⟩ f L) = (do
      let ov ← attributeBase (.Call (.Name "super" p0) [] [] p1) "__init__" (NdefX.envF ⟨"__init__", qual, defArgs st, [], defScope st, [("__class__", cc)], c⟩ f L) (eval (.Call (.Name "super" p0) [] [] p1) (NdefX.envF ⟨"__init__", qual, defArgs st, [], defScope st, [("__class__", cc)], c⟩ f L))
      standAt p2.atName
      let (ff, first) ← holding [ov] (getMethod ov "__init__" (pl L))
      callWith p3 ff first (backTo p3 (starEach [.Name "why" p4] (NdefX.envF ⟨"__init__", qual, defArgs st, [], defScope st, [("__class__", cc)], c⟩ f L))) []))
    (hst : ∀ env : Env, starEach [.Name "why" p4] env = [(false, eval (.Name "why" p4) env)]) :
    FnOk P w K mg base CX0 1 f fd ["self", "why"] (spErr C wd) := by
  obtain ⟨oc, od, dV, kV, doc, pm, an, ct, osl, rfl, lk, hcd, _⟩ := I0
  rw [hbd] at lk ⊢
  refine sup_ok (k := 0) (N := ["self", "why", "__class__"]) bx T lk hcd S hks hp (by rw [har] <;> rfl) (by rw [har]; exact hl0) (fun vs H Q E h => ?_) (fun A outer s H vs Q E hr h => ?_) hst hi hsw he
  · obtain ⟨a, y, rfl, _⟩ := h
    rfl
  · obtain ⟨a, y, rfl, ha, k⟩ := h
    refine ⟨a, tCons (tVar 1) tNil, tPut K newId bmB "word" (tVar 0) (tC (.str wd)), rfl, ha, pa_cons (pv 1 rfl (.inl hl1)) pa_nil (hst _), pss_one (ps_put bx (pv 0 rfl (.inl hl0)) pe_str (hs2 _)), ?_⟩
    exact ⟨y, rfl, Nat.succ_le_succ (Nat.zero_le _), ha, .ref a, rfl, a, C, rfl, T.ox, hno, .inl ⟨ha, fun dx n ne => k dx n ne⟩⟩
end Hs
namespace Hs
open PySem PySem.Spec PyProof.Rows L2 Evl
/-! ### try with several clauses, each with a name -/
theorem flyZ_kept {base : Heap} {l : List Env} {e : Addr} {Z : Obj → Prop} {h h' : Heap} (k : ∀ b o, h.get? b = some o → h'.get? b = some o) (f : HandSPX.FlyingZ base l e Z h) : HandSPX.FlyingZ base l e Z h' := by
  obtain ⟨f1, f2, f3, oe, vs, T, oT, ts, h1, h2, h3, h4, h5, h6, h7, h8, h9⟩ := f
  exact ⟨fun b o z => k b o (f1 b o z), f2, f3.of_keeps fun b o z _ => ⟨o, k b o z, rfl⟩, oe, vs, T, oT, ts, k _ _ h1, h2, h3, h4, h5, h6, k _ _ h7, h8, h9⟩
/-- the classes that a clause names: r tells of a class whether it is one of theirs -/
def TestOk (X : Cx) (t : Expr) (r : Value → Option Bool) : Prop :=
  ∀ (a : Addr) (oe : Obj) (pn : List (Addr × Obj)) (σ : L2.St) (H : Hp) (s : Shared), Inv (X.suite a ((a, oe) :: pn)) [] σ H s → ∀ (cls : Value) (b : Bool), r cls = some b → PySem.W.Looks (model X.prog X.w) s.heap (typeOf (.ref a)) cls →
    ∀ (Q : Bool → Shared → Prop) (E : Value → Shared → Prop), (∀ h', (∀ b o, s.heap.get? b = some o → h'.get? b = some o) → Q b { s with heap := h' }) →
      wpAny (model X.prog X.w) (X.A.mark (some (.ref a))) (eval t X.env) (fun c s₁ => wpAny (model X.prog X.w) (X.A.mark (some (.ref a))) (excMatches (.ref a) c) Q E s₁) E s
theorem ld_cls {X : Cx} {x : Str} {c : Value} {np : Pos} (hc : Names X x c) {a : Addr} {oe : Obj} {pn : List (Addr × Obj)} {σ : L2.St} {H : Hp} {s : Shared} (I : Inv (X.suite a ((a, oe) :: pn)) [] σ H s) {Q : Value → Shared → Prop} {E : Value → Shared → Prop} (q : Q c s) :
    wpAny (model X.prog X.w) (X.A.mark (some (.ref a))) (eval (.Name x np) X.env) Q E s := by
  obtain ⟨hg, hdbg, hm | ⟨hm, hv, hnn⟩⟩ := hc
  · exact ld_glob (X := X.suite a ((a, oe) :: pn)) I hg hm q hdbg
  · exact ld_blt (X := X.suite a ((a, oe) :: pn)) I hg hm hv q hnn hdbg
theorem test_one {X : Cx} {x : Str} {c : Value} {np : Pos} (hc : Names X x c) : TestOk X (.Name x np) (fun cls => PySem.W.exmOne X.K cls c) := by
  intro a oe pn σ H s I cls b hb LT Q E q
  exact ld_cls hc I ((PySem.W.exm_one (M := model X.prog X.w) I.kIn LT hb).here (q s.heap fun _ _ z => z))
theorem test_two {X : Cx} {x y : Str} {c1 c2 : Value} {np nq pos : Pos} {k : Nat} (hc : Names X x c1) (hd : Names X y c2)
    (hs1 : starEach [.Name x np, .Name y nq] X.env = [(false, eval (.Name x np) X.env), (false, eval (.Name y nq) X.env)] := by rfl) : TestOk X (.Tuple [.Name x np, .Name y nq] k pos) (fun cls => PySem.W.exmAny X.K cls [c1, c2]) := by
  intro a oe pn σ H s I cls b hb LT Q E q
  refine wpAny_Tuple_spliced ?_
  rw [hs1]
  show wpAny _ _ (spliced ((false, eval (.Name x np) X.env) :: (false, eval (.Name y nq) X.env) :: backTo pos [])) _ _ s
  refine Calls.spliced_cons (ld_cls hc I (Calls.spliced_cons (ld_cls hd I (Calls.spliced_nil ?_))))
  refine ⟨by show 2 ≤ sizeLine; decide, ?_⟩
  have kp : ∀ b o, s.heap.get? b = some o → (s.heap.push { cls := .type "tuple", data := .seq [c1, c2].toArray }).get? b = some o := fun b o z => Heap.get?_push_of_some _ z
  exact (PySem.W.exm_tup2 (M := model X.prog X.w) (I.kIn.keeps kp) (LT.keeps kp) (Heap.get?_push_size _ rfl) hb).here (q _ kp)
theorem test_three {X : Cx} {x y z : Str} {c1 c2 c3 : Value} {np nq nr pos : Pos} {k : Nat} (hc : Names X x c1) (hd : Names X y c2) (he : Names X z c3)
    (hs1 : starEach [.Name x np, .Name y nq, .Name z nr] X.env = [(false, eval (.Name x np) X.env), (false, eval (.Name y nq) X.env), (false, eval (.Name z nr) X.env)] := by rfl) : TestOk X (.Tuple [.Name x np, .Name y nq, .Name z nr] k pos) (fun cls => PySem.W.exmAny X.K cls [c1, c2, c3]) := by
  intro a oe pn σ H s I cls b hb LT Q E q
  refine wpAny_Tuple_spliced ?_
  rw [hs1]
  show wpAny _ _ (spliced ((false, eval (.Name x np) X.env) :: (false, eval (.Name y nq) X.env) :: (false, eval (.Name z nr) X.env) :: backTo pos [])) _ _ s
  refine Calls.spliced_cons (ld_cls hc I (Calls.spliced_cons (ld_cls hd I (Calls.spliced_cons (ld_cls he I (Calls.spliced_nil ?_))))))
  refine ⟨by show 3 ≤ sizeLine; decide, ?_⟩
  have kp : ∀ b o, s.heap.get? b = some o → (s.heap.push { cls := .type "tuple", data := .seq [c1, c2, c3].toArray }).get? b = some o := fun b o z => Heap.get?_push_of_some _ z
  exact (PySem.W.exm_tup3 (M := model X.prog X.w) (I.kIn.keeps kp) (LT.keeps kp) (Heap.get?_push_size _ rfl) hb).here (q _ kp)
end Hs
namespace Hs
open PySem PySem.Spec PyProof.Rows L2 Evl
/-- what the clauses wish of an exception of the body, one after the other; slot i is the clauses' name -/
def wManyA (i m : Nat) (Wout : WX) (D : Ends) : List ((Value → Option Bool) × (Addr → Value → Option Addr → TS)) → WX
  | [] => Wout
  | (r, ts) :: l => fun cls d σ H => ∃ b, r cls = some b ∧ (b = true → σ.length = m → ∀ a, H a = none → ts a cls d { nx := fun σ' H' => D.nx (σ'.set i none) H', rt := D.rt, bk := fun σ' H' => D.bk (σ'.set i none) H', ct := fun σ' H' => D.ct (σ'.set i none) H' } (σ.set i (some (.ref a))) H) ∧
      (b = false → wManyA i m Wout D l cls d σ H)
inductive HdsA (X : Cx) (n : Str) : List ExceptHandler → List ((Value → Option Bool) × (Addr → Value → Option Addr → TS)) → Prop
  | nil : HdsA X n [] []
  | cons {t : Expr} {r : Value → Option Bool} {ts : Addr → Value → Option Addr → TS} {b₀ : Stmt} {suite : List Stmt} {pos' : Pos} {hds : List ExceptHandler} {l : List ((Value → Option Bool) × (Addr → Value → Option Addr → TS))} (hc : TestOk X t r)
      (hsu : ∀ (a : Addr) (oe : Obj) (cls : Value) (d : Option Addr) (pn : List (Addr × Obj)), Zc cls d oe → (∃ vs, oe.data = .fields vs) → PSs (X.suite a ((a, oe) :: pn)) (b₀ :: suite) (ts a cls d)) (rest : HdsA X n hds l) :
      HdsA X n (.ExceptHandler (some t) (some n) (b₀ :: suite) pos' :: hds) ((r, ts) :: l)
theorem ps_try_manyA {X : Cx} {n : Str} {i : Nat} {body : List Stmt} {h₀ : ExceptHandler} {hds : List ExceptHandler} {l : List ((Value → Option Bool) × (Addr → Value → Option Addr → TS))} {pos : Pos} {tb : WX → TS} {Wout : WX}
    (hs : X.stack = X.env :: X.outer) (hf : X.env.frame = some X.env.locals) (hN : X.N.Nodup) (hi : X.N[i]? = some n) (hln : X.env.kindOf n = some .local) (tk : Takes X Wout)
    (hb : ∀ (W : WX) (pn : List (Addr × Obj)) (xe : Value → Shared → Prop), Takes (X.tr pn xe) W → PassesOwn (model X.prog X.w) X.A X.env xe → PSs (X.tr pn xe) body (tb W))
    (hh : HdsA X n (h₀ :: hds) l) : PS X (.Try body (h₀ :: hds) [] [] pos) (fun D σ H => tb (wManyA i X.N.length Wout D l) D σ H) := by
  refine ⟨fun pins s σ H D I h => ?_⟩
  have ok := I.ok
  have hfr : X.A.frames = some (X.env :: X.outer) := by rw [ok.frames, hs]
  have hloc : Loc X.env.scope n := .inl hln
  refine wpAny_Try_except ?_
  refine wpAny_mono ((hb (wManyA i X.N.length Wout D l) (X.pn ++ pins) (fun e s₁ => wpAny (model X.prog X.w) X.A (noteFrame e X.env) (fun _ s₂ => wpAny (model X.prog X.w) X.A (setFlight e none) (fun _ s₃ =>
    wpAny (model X.prog X.w) X.A (handleBy e X.env (h₀ :: hds)) (SP X pins D) X.xe s₃) X.xe s₂) X.xe s₁) (fun u s' xx => ?_) PassesOwn.looking).run [] s σ H D (I.toTry _) h) (fun f s1 hsp => ?_) (fun e s1 he => he)
  · obtain ⟨a, B, sI, pins', σ', H', cls, d, rfl, J', nb, up, sky, na, os, ag, w⟩ := xx
    have J : Inv X pins σ' H' sI := J'.ofTry ok
    have sky' : Sky B (X.env :: X.outer) a (Zc cls d) X.env.locals s'.heap := by rw [← hs]; exact sky
    show wpAny (model X.prog X.w) X.A (noteFrame (.ref a) X.env) _ _ _
    refine Sky.land Zc.steady hfr hf sky' fun h3 fl3 up3 => ?_
    have notFr : ∀ {h : Heap} {o : Obj} {vs : Array Value}, h.FunFrames B (X.env :: X.outer) → h.get? a = some o → o.data = .fields vs → a ∉ frs (X.env :: X.outer) := fun {h o vs} ff e dd hm => by
      obtain ⟨_, o', e', hnf⟩ := ff.mem hm
      rw [e] at e'; cases e'
      exact hnf _ dd
    have go : ∀ {hds' : List ExceptHandler} {l' : List ((Value → Option Bool) × (Addr → Value → Option Addr → TS))}, HdsA X n hds' l' → wManyA i X.N.length Wout D l' cls d σ' H' → ∀ h3, HandSPX.FlyingZ B (X.env :: X.outer) a (Zc cls d) h3 → sI.heap.UpToSlots h3 →
        wpAny (model X.prog X.w) X.A (handleBy (.ref a) X.env hds') (SP X pins D) X.xe { s' with heap := h3 } := by
      intro hds' l' hk
      induction hk with
      | nil =>
        intro w h3 fl3 up3
        refine wpAny_handleBy_nil ?_
        obtain ⟨k1, k2, k3, oe, vs, T, oT, ts', he, hz, hd, h1, hr⟩ := id fl3
        unfold PySem.passOn
        refine wpAny_bind (wpAny_field he hd h1 ?_)
        rw [if_neg (show ¬ ((Value.ref T == Value.none) = true) from by simp)]
        have fin : wpAny (model X.prog X.w) X.A (setFlight (.ref a) X.env.frame) (fun _ s4 => wpAny (model X.prog X.w) X.A (throw (.ref a) : Sem Flow) (SP X pins D) X.xe s4) X.xe { s' with heap := h3 } := by
          rw [hf]
          refine HandSPX.setFlight_upZ fl3 fun h4 hh4 up4 => wpAny_throw (tk _ _ ?_)
          exact ⟨a, B, sI, pins, σ', H', cls, d, rfl, J, nb, up3.trans up4, .inr (.inr (by rw [hs]; exact hh4)), na, os, ag, w⟩
        first
          | exact wpAny_bind (wpAny_pure (wpAny_bind fin))
          | exact wpAny_bind fin
      | @cons t r ts b₀ suite pos' hds2 l2 hc hsu rest ih =>
        intro w h3 fl3 up3
        obtain ⟨b, hb1, hyes, hno⟩ := w
        have J3 : Inv X pins σ' H' { s' with heap := h3 } := J.landed nb fl3.1 up3 os ag
        obtain ⟨oe3, vs3, he3, hz3, hd3⟩ := fl3.there
        have nfr := notFr fl3.2.2.1 he3 hd3
        have nL : a ≠ X.env.locals := fun z => nfr (List.mem_filterMap.mpr ⟨X.env, List.mem_cons_self, by rw [hf, z]⟩)
        have nF : a ∉ X.fs := fun hm => by
          obtain ⟨e, he, q⟩ := List.mem_filterMap.mp hm
          exact nfr (List.mem_filterMap.mpr ⟨e, List.mem_cons_of_mem _ he, q⟩)
        have S3 := J3.suite he3 hd3 na nL nF
        refine wpAny_handleBy_cons (codeAny_handlers_test ?_) (by intro q; cases q)
        have LT : PySem.W.Looks (model X.prog X.w) h3 (typeOf (.ref a)) cls := fun A Q E s k q => wpAny_typeOf_ref (k _ _ he3) (by rw [hz3.1]; exact q)
        refine hc a oe3 (X.pn ++ pins) σ' H' _ S3 cls b hb1 LT _ _ fun h4 kp4 => ?_
        have fl4 := flyZ_kept kp4 fl3
        have up4 : sI.heap.UpToSlots h4 := up3.trans (Heap.UpToSlots.of_keeps kp4)
        cases b with
        | true =>
          refine codeAny_handlers_suite_as ?_
          refine HandSPX.lands_againZ fl4 fun h5 fl5 up5 => ?_
          have J5 : Inv X pins σ' H' { s' with heap := h5 } := J.landed nb fl5.1 (up4.trans up5) os ag
          obtain ⟨oe5, vs5, he5, hz5, hd5⟩ := fl5.there
          have S5 := J5.suite he5 hd5 na nL nF
          refine store_ok (X := X.suite a ((a, oe5) :: (X.pn ++ pins))) (v := .ref a) S5 hN hi hloc rfl (fun s6 S6 => ?_) (.inr hln)
          refine wpAny_mono ((hsu a oe5 cls d (X.pn ++ pins) hz5 ⟨_, hd5⟩).run [] s6 _ H' _ S6 (hyes rfl J.len a na)) (fun f s6 hsp => ?_) (fun _ _ z => False.elim z)
          have end_ : ∀ {σ6 : L2.St} {H6 : Hp} {Q : Shared → Prop}, Inv (X.suite a ((a, oe5) :: (X.pn ++ pins))) [] σ6 H6 s6 → (∀ s7, Inv X pins (σ6.set i none) H6 s7 → Q s7) →
              wpAny (model X.prog X.w) X.A (do bindName X.env n .none; unbindBehindTheSuite X.env n pos') (fun _ s7 => Q s7) X.xe s6 := fun {σ6 H6 Q} S6 hq => gone_ok (S6.unsuite ok) hN hi hln hq
          cases f with
          | next =>
            obtain ⟨σ6, H6, S6, q6⟩ := hsp
            exact end_ S6 fun s7 J7 => ⟨_, _, J7, q6⟩
          | brk =>
            obtain ⟨σ6, H6, S6, q6⟩ := hsp
            exact end_ S6 fun s7 J7 => ⟨_, _, J7, q6⟩
          | cont =>
            obtain ⟨σ6, H6, S6, q6⟩ := hsp
            exact end_ S6 fun s7 J7 => ⟨_, _, J7, q6⟩
          | ret u =>
            obtain ⟨v6, σ6, H6, S6, r6, q6⟩ := hsp
            exact end_ S6 fun s7 J7 => ⟨_, _, _, J7, r6, q6⟩
        | false =>
          show wpAny _ X.A (handleBy (.ref a) X.env hds2) _ _ _
          exact ih (hno rfl) h4 fl4 up4
    exact go hh w h3 fl3 (up.trans up3)
  · cases f with
    | next =>
      obtain ⟨σ', H', J', q⟩ := hsp
      exact wpAny_execs_nil ⟨σ', H', J'.ofTry ok, q⟩
    | brk =>
      obtain ⟨σ', H', J', q⟩ := hsp
      exact ⟨σ', H', J'.ofTry ok, q⟩
    | cont =>
      obtain ⟨σ', H', J', q⟩ := hsp
      exact ⟨σ', H', J'.ofTry ok, q⟩
    | ret u =>
      obtain ⟨v, σ', H', J', r, q⟩ := hsp
      exact ⟨v, σ', H', J'.ofTry ok, r, q⟩
end Hs
namespace Hs
open PySem PySem.Spec PyProof.Rows L2 Evl
/-- e.n in an except suite, whatever own class the error has -/
def tXfA (K : PySem.W.Frag) (a : Addr) (cls : Value) (d : Option Addr) (n : Str) (te : TE) : TE := fun σ H Q => te σ H fun x H1 => x = .ref a ∧ ∃ C : Addr, cls = .ref C ∧ XfC K C ∧ PySem.W.findIn K (.ref C) n = some none ∧
  ∃ (dd : Addr) (fs : List (Str × V)) (v : V), d = some dd ∧ H1 dd = some (.xd fs) ∧ fs.lookup n = some v ∧ Q v H1
theorem pe_xfA {X : Cx} {a : Addr} {oe : Obj} {cls : Value} {d : Option Addr} {pn : List (Addr × Obj)} {e : Expr} {te : TE} {pos : Pos} {n : Str} (hz : Zc cls d oe) (hf : ∃ vs, oe.data = .fields vs) (he : PE (X.suite a ((a, oe) :: pn)) e te)
    (hb : attributeBase e n X.env (eval e X.env) = eval e X.env := by rfl) : PE (X.suite a ((a, oe) :: pn)) (.Attribute e n pos) (tXfA X.K a cls d n te) := by
  refine ⟨fun pins s σ H Q I h => ?_⟩
  refine attr_of hb (thn (he.run pins s σ H _ I h) fun u s1 hh => ?_)
  obtain ⟨x, H1, I1, rx, ex, C, ec, T, hno, dd, fs, v, ed, ea, l, q⟩ := hh
  subst ex
  obtain rfl : u = Value.ref a := rx
  subst ec
  subst ed
  obtain ⟨ha, _⟩ := I1.pin (a, oe) (List.mem_append_left _ List.mem_cons_self)
  obtain ⟨vs, hd⟩ := hf
  have hx : ObjOk X.prog X.w H1 s1.heap dd (.xd fs) := I1.hok dd _ ea
  obtain ⟨mA, hns, hr⟩ := hx
  obtain ⟨od, ho, hl⟩ := lookIn_ns hns
  obtain ⟨u, hu, ru⟩ := RelO.some_of (v := v) (o := mA n) (by rw [← l]; exact hr n)
  have J : PySem.W.InstAt s1.heap a oe C (some od) := ⟨ha, hz.1, by unfold PySem.W.notCls; rw [hd] <;> rfl, by rw [hz.2]; exact ho⟩
  exact HandSPX.exc_get I1.kIn J T.ga T.gg T.exC (PySem.W.findObj_own T.hdC hno rfl (by rw [hl, hu])) (handed_of ru) ⟨v, H1, I1.tok _, ru, q⟩
/-- the classes that the law's own catcher names -/
structure Cats (mg : Str → Option Value) (cN cL cK cB cS cM cC : Addr) : Prop where
  n : mg "NoThing" = some (.ref cN)
  l : mg "NoLook" = some (.ref cL)
  k : mg "Looked" = some (.ref cK)
  b : mg "BadText" = some (.ref cB)
  s : mg "ShadeError" = some (.ref cS)
  m : mg "Missing" = some (.ref cM)
  c : mg "Crowded" = some (.ref cC)
/-- an error class that only the last clause takes, with its word -/
structure Word (K : PySem.W.Frag) (C cN cL cK cB cS cM cC : Addr) : Prop where
  n : PySem.W.exmOne K (.ref C) (.ref cN) = some false
  l : PySem.W.exmAny K (.ref C) [.ref cL, .ref cK] = some false
  b : PySem.W.exmOne K (.ref C) (.ref cB) = some false
  s : PySem.W.exmAny K (.ref C) [.ref cS, .ref cM, .ref cC] = some true
  xf : XfC K C
  no : PySem.W.findIn K (.ref C) "word" = some none
/-- what the catcher makes of what it calls: ('told', v), or the word of an error -/
def TTr (K : PySem.W.Frag) (cN cL cK cB cS cM cC : Addr) : (XK → Hp → VK → Prop) → Hp → VK → Prop := fun tl H Q =>
  tl (fun cls d H' => ∃ (C dd : Addr) (fs : List (Str × V)) (wd : Str), cls = .ref C ∧ d = some dd ∧ Word K C cN cL cK cB cS cM cC ∧ H' dd = some (.xd fs) ∧ fs.lookup ("word" : Str) = some (V.str wd) ∧ ∀ p, H' p = none → Q (.ref p) (upd H' p (.tup [.str wd]))) H
    (fun v H1 => ([V.str "told", v] : List V).length ≤ sizeLine ∧ ∀ p, H1 p = none → Q (.ref p) (upd H1 p (.tup [.str "told", v])))
abbrev sTried : Stmt := top 109
theorem scTried : FnScope ["_law_act", "e"] ["_law_act"] (defScope sTried) := ⟨rfl, rfl, rfl, by decide +kernel, rfl, by decide +kernel, by decide +kernel⟩
theorem tried_gives {X : Cx} {q : Str} {g : Addr} {cdg : Value} {cN cL cK cB cS cM cC : Addr} (ct : Cats X.mg cN cL cK cB cS cM cC) :
    LamX.GivesTo X ["_law_act", "e"] "_law_tried" (defScope sTried) g cdg (defBody sTried) "_law_act" q (TTr X.K cN cL cK cB cS cM cC) := by
  intro f c' s H Q tl act hc h
  have nd := scTried.nd
  refine ⟨_, pss_one (ps_try_manyA (i := 1) (n := "e") (X := (cxOf C8.CX0 X.prog X.w X.K X.mg X.base ["_law_act", "e"] "_law_tried" (defScope sTried) g cdg X.A X.stack s H C8.E0).nox)
      (tb := fun W D σ H => ∃ Ech : XK, (∀ cls d σ' H', Ech cls d H' → W cls d σ' H') ∧ σ[0]? = some (some (.ref f)) ∧ H c' = some (LamX.CodeO c' q) ∧ tl Ech H (fun v H1 => ([V.str "told", v] : List V).length ≤ sizeLine ∧ ∀ p, H1 p = none → D.rt (.ref p) (upd H1 p (.tup [.str "told", v]))))
      rfl rfl nd rfl rfl LamX.takes0 (fun W pn xe tk _ => ?_)
      (.cons (test_one ⟨rfl, by decide, .inl ct.n⟩) (fun a oe cls d pn hz hf => pss_one (ps_ret (pe_tup (pa_cons (pe_xfA hz hf (pv 1)) (pa_cons (pe_xfA hz hf (pv 1)) (pa_cons (pe_xfA hz hf (pv 1)) pa_nil))))))
      (.cons (test_two ⟨rfl, by decide, .inl ct.l⟩ ⟨rfl, by decide, .inl ct.k⟩) (fun a oe cls d pn hz hf => pss_one (ps_ret (pe_tup (pa_cons (pe_xfA hz hf (pv 1)) (pa_cons (pe_xfA hz hf (pv 1)) pa_nil)))))
      (.cons (test_one ⟨rfl, by decide, .inl ct.b⟩) (fun a oe cls d pn hz hf => pss_one (ps_ret (pe_tup (pa_cons (pe_xfA hz hf (pv 1)) (pa_cons (pe_xfA hz hf (pv 1)) pa_nil)))))
      (.cons (test_three ⟨rfl, by decide, .inl ct.s⟩ ⟨rfl, by decide, .inl ct.m⟩ ⟨rfl, by decide, .inl ct.c⟩) (fun a oe cls d pn hz hf => pss_one (ps_ret (pe_tup (pa_cons (pe_xfA hz hf (pv 1)) pa_nil)))) .nil))))), ?_⟩
  · refine ⟨fun pins s' σ H' D I h' => ?_⟩
    obtain ⟨Ech, hW, h1, h2, h3⟩ := h'
    exact (pss_one (ps_ret (pe_tup (pa_cons pe_str (pa_cons (act W pn xe Ech _ _ tk hW) pa_nil))))).run pins s' σ H' D I ⟨h1, h2, h3⟩
  · refine ⟨_, ?_, rfl, hc, h⟩
    rintro cls d σ' H' ⟨C, dd, fs, wd, rfl, rfl, wc, hx, hl, k⟩
    refine ⟨false, wc.n, fun z => Bool.noConfusion z, fun _ => ⟨false, wc.l, fun z => Bool.noConfusion z, fun _ => ⟨false, wc.b, fun z => Bool.noConfusion z, fun _ => ⟨true, wc.s, fun _ hlen a na => ?_, fun z => Bool.noConfusion z⟩⟩⟩⟩
    have h1 : 1 < σ'.length := by
      rw [hlen]
      show 1 < 2
      decide
    exact ⟨.ref a, List.getElem?_set_self h1, rfl, C, rfl, wc.xf, wc.no, dd, fs, _, rfl, hx, hl, sz_of (by simp), fun p hp => k p hp⟩
end Hs
namespace Hs
open PySem PySem.Spec PyProof.Rows L2 Evl
/-! ### the head: what the run of the top leaves -/
def oclsB (K : PySem.W.Frag) (C : Addr) (newId : String) (bmB : List Value) : Bool := match K.lookup C with
  | some ⟨.type "type", _, .cls cd, sl⟩ => (match cd.mro, sl.toList with
    | .ref C' :: bm, [_, _, _, _, some (.builtin n), _] => C' == C && n == newId && !cd.hasDel && cd.hasDict && PySem.W.excTail bmB bm
    | _, _ => false)
  | _ => false
theorem ocls_of {K : PySem.W.Frag} {C : Addr} {newId : String} {bmB : List Value} (q : oclsB K C newId bmB = true) : ∃ nm q N bs bm sn sub ab col dd k0 k1 k2 k3 k5, K.lookup C = some (excClassObj nm q C N bs bm true sn sub ab col dd k0 k1 k2 k3 k5 newId) ∧ PySem.W.excTail bmB bm = true := by
  unfold oclsB at q
  split at q
  · rename_i dd cd sl ho
    split at q
    · rename_i C' bm k0 k1 k2 k3 n k5 hm hs
      simp only [Bool.and_eq_true, beq_iff_eq, Bool.not_eq_true'] at q
      obtain ⟨⟨⟨⟨rfl, rfl⟩, hdel⟩, hdc⟩, ht⟩ := q
      obtain ⟨nm, bs, mro, ns, qn, hd, sn, sub, ab, col, del⟩ := cd
      dsimp only at hm hdel hdc
      subst hm hdel hdc
      have hsl : sl = #[k0, k1, k2, k3, some (.builtin n), k5] := by
        obtain ⟨l⟩ := sl
        simp only at hs
        rw [hs]
      subst hsl
      exact ⟨nm, qn, ns, bs, bm, sn, sub, ab, col, dd, k0, k1, k2, k3, k5, ho, ht⟩
    · cases q
  · cases q
def oexB (K : PySem.W.Frag) (C : Addr) (newId : String) (bmB : List Value) : Bool := oclsB K C newId bmB && (He.eqO (PySem.W.findIn K (.ref C) "__setattr__") (some (some (.builtin "object.__setattr__"))) && (decide (PySem.W.subIn K (.ref C) (.type "BaseException") = some true) && (decide (PySem.W.typeIn K (.ref C) = some (.type "type")) && PySem.W.keepIn K (.ref C))))
theorem oexB_ok {K : PySem.W.Frag} {C : Addr} {newId : String} {bmB : List Value} (h : oexB K C newId bmB = true) : OexG K C newId bmB := by
  obtain ⟨h1, h⟩ := He.ba h
  obtain ⟨h2, h⟩ := He.ba h
  obtain ⟨h3, h⟩ := He.ba h
  obtain ⟨h4, h5⟩ := He.ba h
  exact ⟨ocls_of h1, He.eqO_ok h2, of_decide_eq_true h3, of_decide_eq_true h4, h5⟩
/-- an own error: its class's name, the def of its __init__, its default, the file of its code -/
structure ErrD where
  cls : Str
  qual : Str
  st : Stmt
  why : Str
  file : Str
  bas : String
  nid : String
  iid : String
abbrev FnC : Type := Option (Str × Str × Arguments × FuncBody × Scope × Addr × List Str × Addr)
def iniA (K : PySem.W.Frag) (x : Str) : Addr := He.ma K (He.ga K x) "__init__"
def fnC (K : PySem.W.Frag) (x : Str) : FnC := match K.lookup (iniA K x) with
  | some ⟨_, _, .func fd, _⟩ => some (fd.name, fd.qualname, fd.params, fd.body, fd.scope, fd.globals, fd.closure.map (·.1), fd.builtins)
  | _ => none
def ErrD.val (d : ErrD) : FnC := some ("__init__", d.qual, defArgs d.st, .stmts (defBody d.st), defScope d.st, mainGlobals, ["__class__"], builtinsNs)
def fileB (K : PySem.W.Frag) (c : Addr) (file : Str) : Bool := match K.lookup c with
  | some ⟨_, _, .fields vs, _⟩ => (match (vs[2]? : Option Value) with
    | some (.str f _) => file == f
    | _ => false)
  | _ => false
def cellB (K : PySem.W.Frag) (cc C : Addr) : Bool := match K.lookup cc with
  | some ⟨_, _, .cell (some (.ref C')), _⟩ => decide (C' = C)
  | _ => false
def fileV (K : PySem.W.Frag) (file : Str) : Value → Bool
  | .ref c => fileB K c file
  | _ => false
def cloB (K : PySem.W.Frag) (C : Addr) : List (Str × Addr) → Bool
  | [(_, cc)] => cellB K cc C
  | _ => false
/-- the __init__ of d: its code object, its cell -/
def iniB (K : PySem.W.Frag) (d : ErrD) : Bool := match K.lookup (iniA K d.cls) with
  | some ⟨_, _, .func fd, _⟩ => PySem.W.codeIn K fd.code d.qual && (He.dflB K fd.defaults [.str d.why] && (fileV K d.file fd.code && cloB K (He.ga K d.cls) fd.closure))
  | _ => false
def errB (K : PySem.W.Frag) (d : ErrD) : Bool := oexB K (He.ga K d.cls) d.nid (tailOf d.bas) && (iniB K d && (decide (PySem.W.mroIn K (He.ga K d.cls) (.ref (He.ga K d.cls)) = some true) && (He.eqO (PySem.W.ks_superIn K (He.ga K d.cls) (He.ga K d.cls) "__init__") (some (some (.builtin d.iid))) &&
  (decide (PySem.W.subIn K (.ref (He.ga K d.cls)) (.type d.bas) = some true) && (He.eqO (PySem.W.nsIn K cStatics "thirdparty.any") (some none) && (He.eqO (PySem.W.findIn K (.ref (He.ga K d.cls)) "__init__") (some (some (.ref (iniA K d.cls)))) &&
  (decide (PySem.W.typeIn K (.ref (iniA K d.cls)) = some (.type "function")) && He.eqO (PySem.W.findIn K (.ref (He.ga K d.cls)) "word") (some none))))))))
theorem fileB_ok {K : PySem.W.Frag} {c : Addr} {file : Str} (h : fileB K c file = true) : ∃ (ccl : Value) (cdd : Option Addr) (vs : Array Value) (ccs : Array (Option Value)) (f : Str) (tf : Tok), K.lookup c = some ⟨ccl, cdd, .fields vs, ccs⟩ ∧ vs[2]? = some (.str f tf) ∧ (file == f) = true := by
  unfold fileB at h
  split at h
  · rename_i ccl cdd vs ccs hk
    split at h
    · rename_i f tf hv
      exact ⟨ccl, cdd, vs, ccs, f, tf, hk, hv, h⟩
    · cases h
  · cases h
theorem cellB_ok {K : PySem.W.Frag} {cc C : Addr} (h : cellB K cc C = true) : ∃ (cl : Value) (cld : Option Addr) (csl : Array (Option Value)), K.lookup cc = some ⟨cl, cld, .cell (some (.ref C)), csl⟩ := by
  unfold cellB at h
  split at h
  · rename_i cl cld C' csl hk
    have e : C' = C := of_decide_eq_true h
    subst e
    exact ⟨cl, cld, csl, hk⟩
  · cases h
theorem iniB_ok {K : PySem.W.Frag} {d : ErrD} (e : fnC K d.cls = d.val) (h : iniB K d = true) :
    ∃ (c cc : Addr) (fd : FuncData), InitAt K d.qual d.st (iniA K d.cls) c cc [.str d.why] fd ∧ (∃ (ccl : Value) (cdd : Option Addr) (vs : Array Value) (ccs : Array (Option Value)) (f : Str) (tf : Tok), K.lookup c = some ⟨ccl, cdd, .fields vs, ccs⟩ ∧ vs[2]? = some (.str f tf) ∧ (d.file == f) = true) ∧
      ∃ (cl : Value) (cld : Option Addr) (csl : Array (Option Value)), K.lookup cc = some ⟨cl, cld, .cell (some (.ref (He.ga K d.cls))), csl⟩ := by
  unfold fnC at e
  unfold iniB at h
  cases q : K.lookup (iniA K d.cls) with
  | none =>
    rw [q] at h
    cases h
  | some o =>
    obtain ⟨oc, od, dt, osl⟩ := o
    rw [q] at h e
    cases dt with
    | func fd =>
      obtain ⟨n1, n2, n3, n4, n5, n6, n7, n8, n9, n10, n11, n12, n13, n14, n15⟩ := fd
      have e2 : (some (n1, n2, n3, n4, n5, n6, n7.map (·.1), n15) : FnC) = (some (("__init__" : Str), d.qual, defArgs d.st, FuncBody.stmts (defBody d.st), defScope d.st, mainGlobals, [("__class__" : Str)], builtinsNs) : FnC) := e
      simp only [Option.some.injEq, Prod.mk.injEq] at e2
      obtain ⟨h1, h2, h3, h4, h5, h6, h7, h8⟩ := e2
      subst h1 h2 h3 h4 h5 h6 h8
      have h0 : (PySem.W.codeIn K n13 d.qual && (He.dflB K n8 [.str d.why] && (fileV K d.file n13 && cloB K (He.ga K d.cls) n7))) = true := h
      obtain ⟨k1, h0⟩ := He.ba h0
      obtain ⟨k2, h0⟩ := He.ba h0
      obtain ⟨k3, k4⟩ := He.ba h0
      obtain ⟨c, rfl⟩ := He.codeIn_ref k1
      clear e h
      cases n7 with
      | nil => cases h7
      | cons z r =>
        cases r with
        | cons z2 r2 =>
          injection h7 with _ h9
          cases h9
        | nil =>
          obtain ⟨y, cc⟩ := z
          have ey : y = "__class__" := by
            have z : [y] = [("__class__" : Str)] := h7
            injection z
          subst ey
          exact ⟨c, cc, _, ⟨oc, od, n8, n9, n10, n11, n12, n14, osl, rfl, q, k1, He.dflB_ok k2⟩, fileB_ok k3, cellB_ok k4⟩
    | _ => cases h
/-! ### the Hook -/
/-- what is looked at: the module's names, and the statics -/
structure Sel where
  names : List Str
  meths : List (Str × Str)
def refsG (g : Addr → Option Obj) (a : Addr) : List Addr := match g a with
  | some o => He.refsD o
  | none => []
def selA (n : Sel) (g : Addr → Option Obj) : List Addr :=
  let K0 := He.frT g [mainGlobals]
  let l1 := n.names.map (He.ga K0)
  let l2 := l1.flatMap (refsG g)
  let K1 := He.frT g (cStatics :: mainGlobals :: (l1 ++ l2))
  let l3 := n.meths.map fun p => He.ma K1 (He.ga K0 p.1) p.2
  cStatics :: mainGlobals :: (l1 ++ (l2 ++ (l3 ++ l3.flatMap (refsG g))))
def asY (n : Sel) (g : Addr → Option Obj) : List Addr := selA n g
structure SaysY (fa : List He.Fa) (fn : List He.DefD) (ts : List He.Tab) (tf : List He.Defn) (er : List ErrD) (ex : PySem.W.Frag → Bool) (w : World) (h : Heap) (K : PySem.W.Frag) : Prop where
  x : He.SaysX fa fn ts tf ex w h K
  er : ∀ d ∈ er, errB K d = true ∧ fnC K d.cls = d.val
abbrev AlY : Type := He.AlX × (Bool × List FnC)
def obsK (fa : List He.Fa) (fn : List He.DefD) (ts : List He.Tab) (tf : List He.Defn) (er : List ErrD) (ex : PySem.W.Frag → Bool) (g : Addr → Option Obj) (K : PySem.W.Frag) : AlY := ((He.obsT fa fn ts K, ex K && He.tabsB g tf K), er.all (errB K), er.map fun d => fnC K d.cls)
def obsY (n : Sel) (fa : List He.Fa) (fn : List He.DefD) (ts : List He.Tab) (tf : List He.Defn) (er : List ErrD) (ex : PySem.W.Frag → Bool) (g : Addr → Option Obj) : AlY := obsK fa fn ts tf er ex g (He.frT g (asY n g))
def valY (fn : List He.DefD) (ts : List He.Tab) (er : List ErrD) (w : World) : AlY := (He.valX fn ts w, true, er.map ErrD.val)
theorem saysY_of {n : Sel} {fa : List He.Fa} {fn : List He.DefD} {ts : List He.Tab} {tf : List He.Defn} {er : List ErrD} {ex : PySem.W.Frag → Bool} {w : World} {h : Heap} (e : obsY n fa fn ts tf er ex h.get? = valY fn ts er w) : SaysY fa fn ts tf er ex w h (He.frT h.get? (asY n h.get?)) := by
  have e1 : He.obsT fa fn ts (He.frT h.get? (asY n h.get?)) = He.valT fn ts w := congrArg (fun z : AlY => z.1.1) e
  have e2 : (ex (He.frT h.get? (asY n h.get?)) && He.tabsB h.get? tf (He.frT h.get? (asY n h.get?))) = true := congrArg (fun z : AlY => z.1.2) e
  have e3 : er.all (errB (He.frT h.get? (asY n h.get?))) = true := congrArg (fun z : AlY => z.2.1) e
  have e4 : er.map (fun d => fnC (He.frT h.get? (asY n h.get?)) d.cls) = er.map ErrD.val := congrArg (fun z : AlY => z.2.2) e
  generalize hK : He.frT h.get? (asY n h.get?) = K at e1 e2 e3 e4 ⊢
  obtain ⟨h1, h2⟩ := He.ba e2
  have key : ∀ p ∈ tf, PySem.W.codeHdIn K (He.cT K p).1 (He.cT K p).2 = true ∧ ∃ o, h.get? (He.cT K p).2 = some o ∧ He.emptyTab o = true := fun p hp => by
    obtain ⟨h3, h4⟩ := He.ba (List.all_eq_true.mp h2 p hp)
    refine ⟨h3, ?_⟩
    cases q : h.get? (He.cT K p).2 with
    | none =>
      rw [q] at h4
      cases h4
    | some o =>
      rw [q] at h4
      exact ⟨o, rfl, h4⟩
  refine ⟨⟨e1, h1, fun p hp => (key p hp).1, fun p hp => ?_, fun p hp => ?_⟩, fun d hd => ⟨List.all_eq_true.mp e3 d hd, List.map_inj_left.mp e4 d hd⟩⟩
  · obtain ⟨_, o, q, z⟩ := key p hp
    have y := He.frT_none (as := asY n h.get?) q z
    rw [hK] at y
    exact y
  · obtain ⟨_, o, q, z⟩ := key p hp
    rw [q, He.emptyTab_eq z]
def hookY (n : Sel) (fa : List He.Fa) (fn : List He.DefD) (ts : List He.Tab) (tf : List He.Defn) (er : List ErrD) (ex : PySem.W.Frag → Bool) : PySem.W.Hook where
  α := AlY
  obs := fun s => obsY n fa fn ts tf er ex s.heap.get?
  val := fun w => valY fn ts er w
  says := fun w h => ∃ K : PySem.W.Frag, K.In h ∧ SaysY fa fn ts tf er ex w h K
  of := fun _ _ e => ⟨_, He.frT_in, saysY_of e⟩
  keeps := fun _ _ _ ⟨K, hK, c⟩ k => ⟨K, PySem.W.Frag.In.keeps hK k, ⟨⟨c.x.t, c.x.more, c.x.hd, c.x.out, fun p hp => k _ _ (c.x.empty p hp)⟩, c.er⟩⟩
theorem obsY_eq {n : Sel} {fa : List He.Fa} {fn : List He.DefD} {ts : List He.Tab} {tf : List He.Defn} {er : List ErrD} {ex : PySem.W.Frag → Bool} {g : Addr → Option Obj} {s : Shared} (h : ∀ a, g a = s.heap.get? a) : obsY n fa fn ts tf er ex g = (hookY n fa fn ts tf er ex).obs s := by
  have e : g = s.heap.get? := funext h
  rw [e] <;> rfl
/-- a text that is looked up -/
def strB (r : Option (Option Value)) (z : Str) : Bool := match r with
  | some (some (.str y _)) => decide (y = z)
  | _ => false
theorem strB_ok {r : Option (Option Value)} {z : Str} (h : strB r z = true) : ∃ t, r = some (some (.str z t)) := by
  unfold strB at h
  split at h
  · rename_i y t
    exact ⟨t, by rw [of_decide_eq_true h]⟩
  · cases h
end Hs
namespace Hs
open PySem PySem.Spec PyProof.Rows L2 Evl
/-! ### the facts of the top -/
def dsCheck : He.DefD := ⟨("check_sift", none), "check_sift", "check_sift", defArgs (top 35), defBody (top 35), defScope (top 35), [], []⟩
def dsSifted : He.DefD := ⟨("sifted", none), "sifted", "sifted", defArgs (top 36), defBody (top 36), defScope (top 36), [], []⟩
def dsSummed : He.DefD := ⟨("summed", none), "summed", "summed", defArgs (top 37), defBody (top 37), defScope (top 37), [], []⟩
def dsFigs : He.DefD := ⟨("figures_of", none), "figures_of", "figures_of", defArgs (top 41), defBody (top 41), defScope (top 41), [], []⟩
def dsLetAll : He.DefD := ⟨("let_by_all", none), "let_by_all", "let_by_all", defArgs (top 43), defBody (top 43), defScope (top 43), [], []⟩
def dsBrought : He.DefD := ⟨("brought", none), "brought", "brought", defArgs (top 44), defBody (top 44), defScope (top 44), [], []⟩
def dsChoice : He.DefD := ⟨("choice_lights", none), "choice_lights", "choice_lights", defArgs (top 45), defBody (top 45), defScope (top 45), [], []⟩
def dsPicked : He.DefD := ⟨("picked_light", none), "picked_light", "picked_light", defArgs (top 46), defBody (top 46), defScope (top 46), [], []⟩
def dsPlace : He.DefD := ⟨("check_place", none), "check_place", "check_place", defArgs (top 48), defBody (top 48), defScope (top 48), [], []⟩
def dsLightC : He.DefD := ⟨("check_light", none), "check_light", "check_light", defArgs (top 49), defBody (top 49), defScope (top 49), [], []⟩
def dsNum : He.DefD := ⟨("row_number", none), "row_number", "row_number", defArgs (top 54), defBody (top 54), defScope (top 54), [], []⟩
def dsCounts : He.DefD := ⟨("counts_of", none), "counts_of", "counts_of", defArgs (top 56), defBody (top 56), defScope (top 56), [], []⟩
def dsChecked : He.DefD := ⟨("checked_setting", none), "checked_setting", "checked_setting", defArgs (top 58), defBody (top 58), defScope (top 58), [], []⟩
def dsPicks : He.DefD := ⟨("picks_of", none), "picks_of", "picks_of", defArgs (top 59), defBody (top 59), defScope (top 59), [], []⟩
def dsBare : He.DefD := ⟨("bare_floor", none), "bare_floor", "bare_floor", defArgs (top 68), defBody (top 68), defScope (top 68), [], []⟩
def dsWith : He.DefD := ⟨("with_thing", none), "with_thing", "with_thing", defArgs (top 69), defBody (top 69), defScope (top 69), [], []⟩
def dsThing : He.DefD := ⟨("thing_of", none), "thing_of", "thing_of", defArgs (top 71), defBody (top 71), defScope (top 71), [], []⟩
def dsFirst : He.DefD := ⟨("first_state", none), "first_state", "first_state", defArgs (top 78), defBody (top 78), defScope (top 78), [], []⟩
def dsRoom : He.DefD := ⟨("check_room", none), "check_room", "check_room", defArgs (top 79), defBody (top 79), defScope (top 79), [], []⟩
def dsPut : He.DefD := ⟨("put", none), "put", "put", defArgs (top 80), defBody (top 80), defScope (top 80), [], []⟩
def dsDoLamp : He.DefD := ⟨("do_lamp", none), "do_lamp", "do_lamp", defArgs (top 81), defBody (top 81), defScope (top 81), [], []⟩
def dsSwitch : He.DefD := ⟨("do_switch", none), "do_switch", "do_switch", defArgs (top 86), defBody (top 86), defScope (top 86), [], []⟩
def dsApplied : He.DefD := ⟨("applied", none), "applied", "applied", defArgs (top 94), defBody (top 94), defScope (top 94), [], []⟩
def dsBag : He.DefD := ⟨("_law_bag", none), "_law_bag", "_law_bag", defArgs (top 105), defBody (top 105), defScope (top 105), [], []⟩
def dsPull : He.DefD := ⟨("_law_pull", none), "_law_pull", "_law_pull", defArgs (top 106), defBody (top 106), defScope (top 106), [], []⟩
def dsSame : He.DefD := ⟨("_law_same", none), "_law_same", "_law_same", defArgs (top 107), defBody (top 107), defScope (top 107), [], []⟩
def dsAll : He.DefD := ⟨("_law_all_tried", none), "_law_all_tried", "_law_all_tried", defArgs (top 108), defBody (top 108), defScope (top 108), [], []⟩
def dsTried : He.DefD := ⟨("_law_tried", none), "_law_tried", "_law_tried", defArgs (top 109), defBody (top 109), defScope (top 109), [], []⟩
def dsFar : He.DefD := ⟨("_law_far", none), "_law_far", "_law_far", defArgs (top 110), defBody (top 110), defScope (top 110), [], []⟩
def dsSum : He.DefD := ⟨("_law_sum", none), "_law_sum", "_law_sum", defArgs (top 111), defBody (top 111), defScope (top 111), [], []⟩
def dsGrid : He.DefD := ⟨("_law_grid", none), "_law_grid", "_law_grid", defArgs (top 112), defBody (top 112), defScope (top 112), [], []⟩
def dsSpot : He.DefD := ⟨("_law_spot", none), "_law_spot", "_law_spot", defArgs (top 113), defBody (top 113), defScope (top 113), [], []⟩
def dsTint : He.DefD := ⟨("_law_tint", none), "_law_tint", "_law_tint", defArgs (top 114), defBody (top 114), defScope (top 114), [], []⟩
def dsLaw : He.DefD := ⟨("law", none), "law", "law", defArgs (top 115), defBody (top 115), defScope (top 115), [], []⟩
def dsInit : He.DefD := ⟨("House", some "__init__"), "__init__", "House.__init__", defArgs (inClass (Hs.top 103) 0), defBody (inClass (Hs.top 103) 0), defScope (inClass (Hs.top 103) 0), [], []⟩
def dsDo : He.DefD := ⟨("House", some "do"), "do", "House.do", defArgs (inClass (Hs.top 103) 1), defBody (inClass (Hs.top 103) 1), defScope (inClass (Hs.top 103) 1), [], []⟩
def dsLampM : He.DefD := ⟨("House", some "lamp"), "lamp", "House.lamp", defArgs (inClass (Hs.top 103) 2), defBody (inClass (Hs.top 103) 2), defScope (inClass (Hs.top 103) 2), [], [("light", .glo "WHITE")]⟩
def dsSwitchM : He.DefD := ⟨("House", some "switch"), "switch", "House.switch", defArgs (inClass (Hs.top 103) 7), defBody (inClass (Hs.top 103) 7), defScope (inClass (Hs.top 103) 7), [], []⟩
def dsLightM : He.DefD := ⟨("House", some "light"), "light", "House.light", defArgs (inClass (Hs.top 103) 28), defBody (inClass (Hs.top 103) 28), defScope (inClass (Hs.top 103) 28), [], [("setting", .non)]⟩
def fn : List He.DefD := [dsCheck, dsSifted, dsSummed, dsFigs, dsLetAll, dsBrought, dsChoice, dsPicked, dsPlace, dsLightC, dsNum, dsCounts, dsChecked, dsPicks, dsBare, dsWith, dsThing, dsFirst, dsRoom, dsPut, dsDoLamp, dsSwitch, dsApplied, dsBag, dsPull, dsSame, dsAll, dsTried, dsFar, dsSum, dsGrid, dsSpot, dsTint, dsLaw, dsInit, dsDo, dsLampM, dsSwitchM, dsLightM]
def fa : List He.Fa := [.glo "check_sift", .glo "sifted", .glo "summed", .glo "figures_of", .glo "let_by_all", .glo "brought", .glo "choice_lights", .glo "picked_light", .glo "check_place", .glo "check_light", .glo "row_number", .glo "counts_of", .glo "checked_setting", .glo "picks_of", .glo "bare_floor", .glo "with_thing", .glo "thing_of", .glo "first_state", .glo "check_room", .glo "put", .glo "do_lamp", .glo "do_switch", .glo "applied", .glo "_law_bag", .glo "_law_pull", .glo "_law_same", .glo "_law_all_tried", .glo "_law_tried", .glo "_law_far", .glo "_law_sum", .glo "_law_grid", .glo "_law_spot", .glo "_law_tint", .glo "law", .glo "BadPlace", .glo "BadLight", .glo "BadSift", .glo "BadSetting", .glo "Unknown", .glo "Full", .glo "NoThing", .glo "NoLook", .glo "Looked", .glo "BadText", .glo "ShadeError", .glo "Missing", .glo "Crowded", .glo "House", .glo "SIFTS", .glo "DARK", .glo "WHITE", .glo "SORTS", .glo "FORMS", .glo "DOERS", .free "len", .free "list", .free "int", .free "str", .free "bool", .free "tuple", .free "isinstance", .free "all", .free "range", .free "super", .free "zip", .free "min", .free "max", .free "abs", .free "sum", .int "FAR" 1000000, .int "BRIGHT" 1000000, .int "MOST_THINGS" 12, .str "ALL_COLOURS" "rgb", .cls "House", .mkr "House", .noat "House" "state", .noat "House" "past", .noat "House" "ahead", .noat "House" "trying", .meth "House" "do", .meth "House" "lamp", .meth "House" "switch", .meth "House" "light"]
def tb : List He.Tab := [(fun K => He.ga K "FORMS", [("lamp" : Str), ("unsure" : Str), ("post" : Str), ("pane" : Str), ("move" : Str), ("switch" : Str), ("drop" : Str), ("look" : Str), ("strike" : Str), ("settle" : Str), ("many" : Str)]), (fun K => He.ga K "DOERS", [("lamp" : Str), ("unsure" : Str), ("post" : Str), ("pane" : Str), ("move" : Str), ("switch" : Str), ("drop" : Str), ("look" : Str), ("strike" : Str), ("settle" : Str), ("many" : Str)])]
abbrev sBadPlace : Stmt := inClass (top 3) 0
def dBadPlace : ErrD := ⟨"BadPlace", "BadPlace.__init__", sBadPlace, "no such place", "/claim/cut.py", "ValueError", "ValueError.__new__", "ValueError.__init__"⟩
abbrev sBadLight : Stmt := inClass (top 4) 0
def dBadLight : ErrD := ⟨"BadLight", "BadLight.__init__", sBadLight, "no such light", "/claim/cut.py", "ValueError", "ValueError.__new__", "ValueError.__init__"⟩
abbrev sBadSift : Stmt := inClass (top 5) 0
def dBadSift : ErrD := ⟨"BadSift", "BadSift.__init__", sBadSift, "no such sift", "/claim/cut.py", "ValueError", "ValueError.__new__", "ValueError.__init__"⟩
abbrev sBadSetting : Stmt := inClass (top 10) 0
def dBadSetting : ErrD := ⟨"BadSetting", "BadSetting.__init__", sBadSetting, "no such setting", "/claim/cut.py", "ValueError", "ValueError.__new__", "ValueError.__init__"⟩
abbrev sUnknown : Stmt := inClass (top 14) 0
def dUnknown : ErrD := ⟨"Unknown", "Unknown.__init__", sUnknown, "an open lamp stands", "/claim/cut.py", "ValueError", "ValueError.__new__", "ValueError.__init__"⟩
abbrev sFull : Stmt := inClass (top 19) 0
def dFull : ErrD := ⟨"Full", "Full.__init__", sFull, "no more have room", "/claim/cut.py", "RuntimeError", "RuntimeError.__new__", "RuntimeError.__init__"⟩
def wordB (K : PySem.W.Frag) (C cN cL cK cB cS cM cC : Addr) : Bool := decide (PySem.W.exmOne K (.ref C) (.ref cN) = some false) && (decide (PySem.W.exmAny K (.ref C) [.ref cL, .ref cK] = some false) && (decide (PySem.W.exmOne K (.ref C) (.ref cB) = some false) && (decide (PySem.W.exmAny K (.ref C) [.ref cS, .ref cM, .ref cC] = some true) && (xfB K C && He.eqO (PySem.W.findIn K (.ref C) "word") (some none)))))
theorem wordB_ok {K : PySem.W.Frag} {C cN cL cK cB cS cM cC : Addr} (h : wordB K C cN cL cK cB cS cM cC = true) : Word K C cN cL cK cB cS cM cC := by
  obtain ⟨h1, h⟩ := He.ba h
  obtain ⟨h2, h⟩ := He.ba h
  obtain ⟨h3, h⟩ := He.ba h
  obtain ⟨h4, h⟩ := He.ba h
  obtain ⟨h5, h6⟩ := He.ba h
  exact ⟨of_decide_eq_true h1, of_decide_eq_true h2, of_decide_eq_true h3, of_decide_eq_true h4, xfB_ok h5, He.eqO_ok h6⟩
def exB (K : PySem.W.Frag) : Bool := wordB K (He.ga K "BadPlace") (He.ga K "NoThing") (He.ga K "NoLook") (He.ga K "Looked") (He.ga K "BadText") (He.ga K "ShadeError") (He.ga K "Missing") (He.ga K "Crowded") && (wordB K (He.ga K "BadSetting") (He.ga K "NoThing") (He.ga K "NoLook") (He.ga K "Looked") (He.ga K "BadText") (He.ga K "ShadeError") (He.ga K "Missing") (He.ga K "Crowded") && (He.tupB K "SIFTS" [.str "", .str "r", .str "g", .str "b", .str "rg", .str "rb", .str "gb", .str "rgb"] && (He.tupB K "DARK" [.int 0, .int 0, .int 0] && (He.tupB K "WHITE" [.int 9, .int 9, .int 9] && (He.tupB K "SORTS" [.str "lamp", .str "post", .str "pane"] && (strB (PySem.W.nsIn K (He.ga K "FORMS") "lamp") "nnnnn" && (strB (PySem.W.nsIn K (He.ga K "FORMS") "switch") "n" && (He.eqO (PySem.W.nsIn K (He.ga K "DOERS") "lamp") (some (some (.ref (He.ga K "do_lamp")))) && (He.eqO (PySem.W.nsIn K (He.ga K "DOERS") "switch") (some (some (.ref (He.ga K "do_switch")))) && (decide (He.ga K "do_switch" ≠ He.ga K "do_lamp")))))))))))
def sel : Sel := ⟨[("check_sift" : Str), ("sifted" : Str), ("summed" : Str), ("figures_of" : Str), ("let_by_all" : Str), ("brought" : Str), ("choice_lights" : Str), ("picked_light" : Str), ("check_place" : Str), ("check_light" : Str), ("row_number" : Str), ("counts_of" : Str), ("checked_setting" : Str), ("picks_of" : Str), ("bare_floor" : Str), ("with_thing" : Str), ("thing_of" : Str), ("first_state" : Str), ("check_room" : Str), ("put" : Str), ("do_lamp" : Str), ("do_switch" : Str), ("applied" : Str), ("_law_bag" : Str), ("_law_pull" : Str), ("_law_same" : Str), ("_law_all_tried" : Str), ("_law_tried" : Str), ("_law_far" : Str), ("_law_sum" : Str), ("_law_grid" : Str), ("_law_spot" : Str), ("_law_tint" : Str), ("law" : Str), ("BadPlace" : Str), ("BadLight" : Str), ("BadSift" : Str), ("BadSetting" : Str), ("Unknown" : Str), ("Full" : Str), ("NoThing" : Str), ("NoLook" : Str), ("Looked" : Str), ("BadText" : Str), ("ShadeError" : Str), ("Missing" : Str), ("Crowded" : Str), ("House" : Str), ("SIFTS" : Str), ("DARK" : Str), ("WHITE" : Str), ("SORTS" : Str), ("FORMS" : Str), ("DOERS" : Str)], [(("House" : Str), ("__init__" : Str)), (("House" : Str), ("do" : Str)), (("House" : Str), ("lamp" : Str)), (("House" : Str), ("switch" : Str)), (("House" : Str), ("light" : Str)), (("BadPlace" : Str), ("__init__" : Str)), (("BadLight" : Str), ("__init__" : Str)), (("BadSift" : Str), ("__init__" : Str)), (("BadSetting" : Str), ("__init__" : Str)), (("Unknown" : Str), ("__init__" : Str)), (("Full" : Str), ("__init__" : Str))]⟩
abbrev R : PySem.W.OpenRow := PySem.W.OpenLaw.row PySem.Challenge.rw_hueshade_k09_lamps_alone
abbrev hk : PySem.W.Hook := hookY sel fa fn tb [("law", none)] [dBadPlace, dBadLight, dBadSift, dBadSetting, dUnknown, dFull] exB
def ob (s : PySem.W.SharedT) : AlY := obsY sel fa fn tb [("law", none)] [dBadPlace, dBadLight, dBadSift, dBadSetting, dUnknown, dFull] exB (HandSHeadRun.getT s)
theorem ob_eq (s : PySem.W.SharedT) : ob s = hk.obs s.abs := obsY_eq (HandSHeadRun.getT_eq s)
abbrev others : List Str := [("_wall" : Str), ("__name__" : Str), ("ShadeError" : Str), ("BadPlace" : Str), ("BadLight" : Str), ("BadSift" : Str), ("BadBlock" : Str), ("BadPiece" : Str), ("BadMenu" : Str), ("BadChoice" : Str), ("BadSetting" : Str), ("BadSort" : Str), ("BadDeed" : Str), ("BadText" : Str), ("Unknown" : Str), ("Missing" : Str), ("NoThing" : Str), ("NoLook" : Str), ("Crowded" : Str), ("Full" : Str), ("Looked" : Str), ("TooMany" : Str), ("FAR" : Str), ("lean" : Str), ("side" : Str), ("box_around" : Str), ("blocks_meet" : Str), ("beside" : Str), ("pieces_meet" : Str), ("block_meets" : Str), ("BRIGHT" : Str), ("SIFTS" : Str), ("DARK" : Str), ("check_sift" : Str), ("sifted" : Str), ("summed" : Str), ("both_sifts" : Str), ("ALL_COLOURS" : Str), ("figures_of" : Str), ("let_by" : Str), ("let_by_all" : Str), ("brought" : Str), ("choice_lights" : Str), ("picked_light" : Str), ("check_place" : Str), ("check_light" : Str), ("MOST_SETTINGS" : Str), ("how_many" : Str), ("all_rows" : Str), ("row_number" : Str), ("counts_of" : Str), ("settings_of" : Str), ("checked_setting" : Str), ("picks_of" : Str), ("setting_lights" : Str), ("look_answers" : Str), ("all_meet" : Str), ("fitting" : Str), ("MOST_THINGS" : Str), ("MOST_LOOKS" : Str), ("SORTS" : Str), ("bare_floor" : Str), ("with_thing" : Str), ("without_thing" : Str), ("thing_of" : Str), ("shifted_place" : Str), ("shifted" : Str), ("places_of" : Str), ("with_moved" : Str), ("FORMS" : Str), ("first_state" : Str), ("check_room" : Str), ("put" : Str), ("do_lamp" : Str), ("do_unsure" : Str), ("do_post" : Str), ("do_pane" : Str), ("do_move" : Str), ("do_switch" : Str), ("do_drop" : Str), ("do_look" : Str), ("do_strike" : Str), ("with_choice" : Str), ("do_settle" : Str), ("do_many" : Str), ("DOERS" : Str), ("applied" : Str), ("thing_text" : Str), ("words_text" : Str), ("row_text" : Str), ("deed_rows" : Str), ("page_text" : Str), ("WHITE" : Str), ("House" : Str), ("_law_bag" : Str), ("_law_pull" : Str), ("_law_same" : Str), ("_law_all_tried" : Str), ("_law_tried" : Str), ("_law_far" : Str), ("_law_sum" : Str), ("_law_grid" : Str), ("_law_spot" : Str), ("_law_tint" : Str)]
theorem runT (w : World) : HandSHeadRun.RunEq R (PySem.W.view R.prog [115]) hk ob 20000 others (w.withFollow "special-get-raises" true) := by
  intro os
  kernel_rfl
theorem runF (w : World) : HandSHeadRun.RunEq R (PySem.W.view R.prog [115]) hk ob 20000 others (w.withFollow "special-get-raises" false) := by
  intro os
  kernel_rfl
theorem run (w : World) : HandSHeadRun.RunEq R (PySem.W.view R.prog [115]) hk ob 20000 others w := by
  have h : ∀ b : Bool, HandSHeadRun.RunEq R (PySem.W.view R.prog [115]) hk ob 20000 others (w.withFollow "special-get-raises" b) := fun b => match b with
    | true => runT w
    | false => runF w
  have z := h (w.params.followText "special-get-raises")
  rwa [World.withFollow_self] at z
end Hs
namespace Hs
open PySem PySem.Spec PyProof.Rows L2 LamX NdefX
/-! ### functions by a lambda as values: kept anywhere, called frames deeper while their maker's frame rests -/
/-- a lambda's function: its cells cl, its code object c -/
structure LF where
  qual : Str
  params : Arguments
  body : Expr
  scope : Scope
  cl : List (Str × Addr)
  c : Addr
def LF.nf (F : LF) : NF := ⟨"<lambda>", F.qual, F.params, [], F.scope, F.cl, F.c⟩
/-- the object at f is the function F -/
def LamO (f : Addr) (F : LF) : HO := .ext fun h => ∃ pm ctv : Value, h.get? f = some (PySem.W.kla_obj "<lambda>" F.qual F.params F.body F.scope F.cl pm F.c ctv)
theorem lamO_ne {f : Addr} {F : LF} (ps : Array Value) : LamO f F ≠ .tbl ps := fun z => by
  unfold LamO at z
  cases z
theorem lamO_at {P : Program} {w : World} {H : Hp} {h : Heap} {f : Addr} {F : LF} (hok : HOk P w H h) (e : H f = some (LamO f F)) : ∃ pm ctv : Value, h.get? f = some (PySem.W.kla_obj "<lambda>" F.qual F.params F.body F.scope F.cl pm F.c ctv) := by
  obtain ⟨z, _, _⟩ := hok f _ e
  exact z
section
variable {X : Cx} {pins : List (Addr × Obj)} {σ : L2.St} {H : Hp} {s : Shared}
theorem inv_lam {F : LF} {t' : Nat} {pm ctv : Value} (I : Inv X pins σ H s) :
    Inv X pins σ (upd H s.heap.objs.size (LamO s.heap.objs.size F)) { s with heap := s.heap.push (PySem.W.kla_obj "<lambda>" F.qual F.params F.body F.scope F.cl pm F.c ctv), toks := t' } := by
  have e : (s.heap.push (PySem.W.kla_obj "<lambda>" F.qual F.params F.body F.scope F.cl pm F.c ctv)).get? s.heap.objs.size = some (PySem.W.kla_obj "<lambda>" F.qual F.params F.body F.scope F.cl pm F.c ctv) := Heap.get?_push_size _ rfl
  exact I.laid (a := s.heap.objs.size) (fun b u z => Heap.get?_push_of_some _ z) (Nat.le_refl _) ⟨⟨pm, ctv, e⟩, ⟨_, e⟩, fun h1 h2 ⟨p, t, z⟩ st => ⟨p, t, st _ z⟩⟩
/-- lambda ..: a function of its own, known from now on -/
theorem lam_new {T : List (Addr × Str)} {c P : Addr} {params : Arguments} {body : Expr} {scope : Scope} {pos : Pos} {E : Value → Shared → Prop} {Q : Value → Shared → Prop} (I : Inv X pins σ H s) (TB : TabB X.base X.mg c P) (hcode : X.env.code = .ref c)
    (hm : (P, X.env.qual ++ "<lambda>") ∈ T) (hu : ∀ p ∈ T, p.1 = P → p.2 = X.env.qual ++ "<lambda>") (hT : Tabs T H) (hdef : defaultsOf params X.env = ([], [])) (hfree : ∀ y ∈ scope.names, y.2 = .free → ∃ c, X.env.cells.lookup y.1 = some c)
    (h : ∀ (f c' : Addr) (H1 : Hp) (s' : Shared), Inv X pins σ H1 s' → ExtN H H1 → (∀ b, H1 b = Option.none → H b = Option.none) → Tabs T H1 → H f = none → H1 f = some (LamO f ⟨X.env.qual ++ "<lambda>", params, body, scope, cloFrom X.env.cells scope.names [], c'⟩) → H1 c' = some (CodeO c' (X.env.qual ++ "<lambda>")) → Q (.ref f) s') :
    wpAny (model X.prog X.w) X.A (eval (.Lambda params body scope pos) X.env) Q E s := by
  refine PySem.W.kla_eval hdef ?_
  obtain ⟨ps, hP, ht, ha⟩ := hT _ hm
  have keep : ∀ {G : Hp} {b : Addr} {o : HO} {n : Addr} {u : HO}, G n = none → G b = some o → upd G n u b = some o := fun {G b o n u} z e => (upd_ne (ne_of_none e z)).trans e
  have hB := TB.bm.keeps I.bk
  have hPo : s.heap.get? P = some { cls := .none, data := .fields ps } := I.hok P _ hP
  have hG := I.mod.glob.keeps I.bk
  have hC := TB.code.keeps I.bk
  cases hc : codeAmong pos ps.toList with
  | some cv =>
    obtain ⟨c', rfl, hco⟩ := ha pos cv hc
    refine PySem.W.kla_makeFunctionHit (mg := X.mg) (c := c) (P := P) (ps := ps) (closure_ok hfree) I.ok.glob hG hcode hC hPo ht hc hB fun ctv h' tk hx hsz => ?_
    have J : Inv X pins σ H { s with heap := h', toks := tk } := I.kept hx
    have n0 : H h'.objs.size = none := J.hok.fresh (Nat.le_refl _)
    exact h _ c' _ _ (inv_lam (F := ⟨X.env.qual ++ "<lambda>", params, body, scope, cloFrom X.env.cells scope.names [], c'⟩) J) (fun b o e _ => keep n0 e) (fun b e => upd_none e) (hT.ext fun b o e => keep n0 e) n0 upd_same (keep n0 hco)
  | none =>
    refine PySem.W.kla_makeFunction (mg := X.mg) (c := c) (P := P) (ps := ps) (closure_ok hfree) I.ok.glob hG hcode hC hPo ht hc TB.gP hB fun c' ctv h' tk hx hge hlt hrec htb => ?_
    obtain ⟨_, oc, vs, t, e2, hoc, hd, hv⟩ := hrec
    cases e2
    have nC : H c' = none := I.hok.fresh hge
    have J := inv_table (t' := tk) (more := #[rawInt pos.line, rawInt pos.col, .ref c']) I hP (fun b o hb e => hx b o hb e) htb hge ⟨oc, vs, t, hoc, hd, hv⟩
    have n0 := J.hok.fresh (Nat.le_refl _)
    have go : ∀ b o, H b = some o → b ≠ P → upd (upd H P (.tbl (ps ++ #[rawInt pos.line, rawInt pos.col, .ref c']))) c' (CodeO c' (X.env.qual ++ "<lambda>")) b = some o := fun b o e nb => by
      rw [upd_ne (ne_of_none e nC), upd_ne nb]
      exact e
    have nP : ∀ b o, H b = some o → (∀ qs, o ≠ .tbl qs) → b ≠ P := fun b o e n z => by
      rw [z, hP] at e
      exact n ps (Option.some.inj e).symm
    have T1 : Tabs T (upd (upd H P (.tbl (ps ++ #[rawInt pos.line, rawInt pos.col, .ref c']))) c' (CodeO c' (X.env.qual ++ "<lambda>"))) := fun p hp => by
      have old : ∀ (ps' : Array Value), (∀ (p' : Pos) (cv : Value), codeAmong p' ps'.toList = some cv → ∃ c, cv = .ref c ∧ H c = some (CodeO c p.2)) → ∀ (p' : Pos) (cv : Value), codeAmong p' ps'.toList = some cv → ∃ d, cv = .ref d ∧ upd (upd H P (.tbl (ps ++ #[rawInt pos.line, rawInt pos.col, .ref c']))) c' (CodeO c' (X.env.qual ++ "<lambda>")) d = some (CodeO d p.2) := fun ps' z p' cv hcv => by
        obtain ⟨d, e1, e2⟩ := z p' cv hcv
        exact ⟨d, e1, go d _ e2 (nP d _ e2 codeO_ne)⟩
      by_cases hb : p.1 = P
      · have eq := hu p hp hb
        have eL : (ps ++ #[rawInt pos.line, rawInt pos.col, .ref c']).toList = ps.toList ++ [rawInt pos.line, rawInt pos.col, .ref c'] := by simp
        refine ⟨_, by rw [hb, upd_ne (ne_of_none hP nC), upd_same], by rw [eL]; exact PySem.TriplesOk_snoc _ _ _ _ ht, fun p' cv hcv => ?_⟩
        rw [eL] at hcv
        rcases among_app _ ht hcv with z | z
        · exact old ps (by rw [eq]; exact ha) p' cv z
        · exact ⟨c', z, by rw [eq, upd_same]⟩
      · obtain ⟨ps', a1, a2, a3⟩ := hT p hp
        exact ⟨ps', go _ _ a1 hb, a2, old ps' a3⟩
    refine h _ c' _ _ (inv_lam (F := ⟨X.env.qual ++ "<lambda>", params, body, scope, cloFrom X.env.cells scope.names [], c'⟩) J) (fun b o e n => keep n0 (go b o e (nP b o e n))) (fun b e => upd_none (upd_none (upd_none e))) (T1.ext fun b o e => keep n0 e) ?_ upd_same (keep n0 upd_same)
    exact I.hok.fresh (Nat.le_trans hge (Nat.le_of_lt hlt))
end
def tMkL (T : List (Addr × Str)) (mk : Addr → LF) : TE := fun _ H Q => Tabs T H ∧ ∀ (f c' : Addr) (H1 : Hp), ExtN H H1 → (∀ b, H1 b = Option.none → H b = Option.none) → Tabs T H1 → H f = none → H1 f = some (LamO f (mk c')) → H1 c' = some (CodeO c' (mk c').qual) → Q (.ref f) H1
theorem pe_lam {X : Cx} {T : List (Addr × Str)} {c P : Addr} {params : Arguments} {body : Expr} {scope : Scope} {pos : Pos} (TB : TabB X.base X.mg c P) (hcode : X.env.code = .ref c)
    (hm : (P, X.env.qual ++ "<lambda>") ∈ T) (hu : ∀ p ∈ T, p.1 = P → p.2 = X.env.qual ++ "<lambda>") (hdef : defaultsOf params X.env = ([], [])) (hfree : ∀ y ∈ scope.names, y.2 = .free → X.env.scope.names.lookup y.1 = some .cell ∨ X.env.scope.names.lookup y.1 = some .free) :
    PE X (.Lambda params body scope pos) (tMkL T fun c' => ⟨X.env.qual ++ "<lambda>", params, body, scope, cloFrom X.env.cells scope.names [], c'⟩) := by
  refine ⟨fun pins s σ H Q I h => ?_⟩
  obtain ⟨hT, h⟩ := h
  refine lam_new I TB hcode hm hu hT hdef (fun y hy e => (hfree y hy e).elim (fun z => I.ok.has _ (.inl z)) fun z => I.ok.has _ (.inr z)) fun f c' H1 s' I1 eN nn T1 f0 f1 c1 => ?_
  exact ⟨.ref f, H1, I1, rfl, h f c' H1 eN nn T1 f0 f1 c1⟩
/-! ### what such a function promises: sp ws, ws what its cells hold when it is called -/
structure LOk (P : Program) (w : World) (K : PySem.W.Frag) (mg : Str → Option Value) (base : Heap) (CX : CXT) (k : Nat) (F : LF) (ps fr : List Str) (sp : List (Option V) → Sp) : Prop where
  len : ∀ ws vs H Q E, sp ws vs H Q E → vs.length = ps.length
  run : ∀ (A : Around) (outer : List Env) (s : Shared) (H : Hp) (f : Addr) (us : List Value) (vs : List V) (ws : List (Option V)) (Q : VK) (E : XK), Room k A → Env0 P w K mg base A outer s H → H f = some (LamO f F) → H F.c = some (CodeO F.c F.qual) →
    CellsAt F.cl fr ws s.heap H → Vals vs us → sp ws vs H Q E → codeAny (model P w) A (.call (.ref f) ⟨us, []⟩) (CR CX outer P w H s Q E) s
section
variable {CX : CXT} {P : Program} {w : World} {K : PySem.W.Frag} {mg : Str → Option Value} {base : Heap} {N ps fr : List Str} {F : LF} {k : Nat} {sp : List (Option V) → Sp}
theorem lok_of (S : NScope N ps fr F.scope) (hb : ∀ (pm ctv : Value) (us : List Value), us.length = ps.length → bindArgs (PySem.W.kla_fn "<lambda>" F.qual F.params F.body F.scope F.cl pm (.ref F.c) ctv) ⟨us, []⟩ = pure (ps.zip us)) (len : ∀ ws vs H Q E, sp ws vs H Q E → vs.length = ps.length)
    (hbody : ∀ (A : Around) (outer : List Env) (s : Shared) (H : Hp) (f : Addr) (vs : List V) (ws : List (Option V)) (Q : VK) (E : XK), Room k (A.deeper (envF F.nf f s.heap.objs.size)) → ws.length = fr.length → sp ws vs H Q E →
      ∃ t, PE (ncx CX P w K mg base N F.nf f A outer s H E) F.body t ∧ t (startF N vs ws) H Q) :
    LOk P w K mg base CX (k + 1) F ps fr sp := by
  refine ⟨len, fun A outer s H f us vs ws Q E hr e0 hf hc C r hsp => ?_⟩
  have hl := len _ _ _ _ _ hsp
  have lim : s.heap.NoLimit := e0.mod.nolimit.keeps fun b o e => (e0.bs b o e).1
  obtain ⟨pm, ctv, ho⟩ := lamO_at e0.hok hf
  refine PySem.W.kla_callFunE hr.depth ho rfl S.co S.gen rfl (codeO_at e0.hok hc) ?_
  rw [hb pm ctv us (by rw [← r.length]; exact hl)]
  refine wpAny_pure (wpAny_newFunctionEnv S.nocell (fun ⟨n, _⟩ hy => S.par n (List.of_mem_zip hy).1) (fun h₁ hns hsb => ⟨lim.fresh _ hsb, ?_⟩) S.kind)
  show codeAny _ _ (.expr F.body (envF F.nf f s.heap.objs.size)) _ _
  have kp : ∀ b o, s.heap.get? b = some o → h₁.get? b = some o := fun b o e => hsb.extBut b o (Nat.ne_of_lt (Heap.lt_size e)) (Heap.get?_push_of_some _ e)
  obtain ⟨t, ht, hq⟩ := hbody A outer s H f vs ws Q E (hr.deeper _) C.len hsp
  have I : Inv (ncx CX P w K mg base N F.nf f A outer s H E) [] (startF N vs ws) H { s with heap := h₁, toks := s.toks + (ps.zip us).length } := inv_startN (F := F.nf) S hr.hd e0 hl r C hns kp
  refine PySem.W.kla_codeExpr (wpAny_mono (ht.run [] _ _ H Q I hq) (fun v s' z => ?_) fun e s' z => z)
  obtain ⟨w', H', J, rv, q⟩ := z
  exact ⟨w', H', J.os, J.bare, J.base, J.hok, rv, q⟩
end
/-! ### calls -/
section
variable {Z : Cx} {pins : List (Addr × Obj)} {σ : L2.St} {H : Hp} {s : Shared} {cl : List (Str × Addr)} {fr : List Str} {ws : List (Option V)}
/-- cells that stand in the base hold what they held there -/
theorem cells_base (C : CellsAt cl fr ws Z.base fun _ => none) (I : Inv Z pins σ H s) : CellsAt cl fr ws s.heap H := by
  have kp : ∀ c v, Z.base.IsCell c v → s.heap.IsCell c v := fun c v ⟨o, ho, hd⟩ => ⟨o, I.bk _ _ ho, hd⟩
  refine ⟨C.len, fun y c e => ?_, C.inj, fun i y e => ?_⟩
  · obtain ⟨_, v, z⟩ := C.all y c e
    have z2 := kp c v z
    obtain ⟨o, ho, _⟩ := z
    exact ⟨(I.bs _ _ ho).2, v, z2⟩
  · obtain ⟨c, hc, hv⟩ := C.has i y e
    refine ⟨c, hc, fun v ev => ?_⟩
    obtain ⟨u, r, z⟩ := hv v ev
    exact ⟨u, r, kp c _ z⟩
theorem cells_in {base' : Heap} (C : CellsAt cl fr ws s.heap H) (hb : ∀ y c, cl.lookup y = some c → base'.get? c = s.heap.get? c) : CellsAt cl fr ws base' fun _ => none := by
  have kp : ∀ y c, cl.lookup y = some c → ∀ v, s.heap.IsCell c v → base'.IsCell c v := fun y c e v ⟨o, ho, hd⟩ => ⟨o, (hb y c e).trans ho, hd⟩
  refine ⟨C.len, fun y c e => ?_, C.inj, fun i y e => ?_⟩
  · obtain ⟨_, v, z⟩ := C.all y c e
    exact ⟨rfl, v, kp y c e v z⟩
  · obtain ⟨c, hc, hv⟩ := C.has i y e
    refine ⟨c, hc, fun v ev => ?_⟩
    obtain ⟨u, r, z⟩ := hv v ev
    exact ⟨u, r, kp y c hc _ z⟩
theorem lamAt_of {f : Addr} {F : LF} (I : Inv Z pins σ H s) (e : H f = some (LamO f F)) : PySem.W.FnAt f s.heap := by
  obtain ⟨pm, ctv, ho⟩ := lamO_at I.hok e
  exact ⟨_, _, _, _, ho⟩
end
section
variable {Z : Cx} {CX : CXT} {F : LF} {ps fr : List Str} {ws : List (Option V)} {i j k : Nat} {x : Str} {sp : List (Option V) → Sp} {E : XK} {t : TA} {e : Expr} {es : List Expr} {p pos : Pos}
theorem run_l {pins : List (Addr × Obj)} {σ : L2.St} {H : Hp} {s : Shared} {Q : VK} {f : Addr} {us : List Value} {vs : List V} (Fn : LOk Z.prog Z.w Z.K Z.mg Z.base CX k F ps fr sp) (hr : Room j Z.A) (hk : k ≤ j) (hx : Passes CX Z E) (I : Inv Z pins σ H s)
    (hf : H f = some (LamO f F)) (hc : H F.c = some (CodeO F.c F.qual)) (C : CellsAt F.cl fr ws s.heap H) (r : Vals vs us) (q : sp ws vs H Q E) :
    wpAny (model Z.prog Z.w) Z.A (call (.ref f) us) (EP Z pins σ Q) Z.xe s := by
  refine wpAny_call (codeAny_mono (Fn.run Z.A Z.stack s H f us vs _ Q E (hr.mono hk) I.env0 hf hc C r q) fun r s' hq => ?_)
  cases r with
  | error er => exact hx pins σ H s er s' I hq
  | ok fl =>
    cases fl with
    | ret u => exact I.after hq
    | next => exact False.elim hq
    | brk => exact False.elim hq
    | cont => exact False.elim hq
/-- x(), x a name of the running frame that holds such a function; its maker's frame rests -/
theorem pe_callL0 (Fn : LOk Z.prog Z.w Z.K Z.mg Z.base CX k F [] fr sp) (C : CellsAt F.cl fr ws Z.base fun _ => none) (hr : Room j Z.A) (hk : k ≤ j) (hx : Passes CX Z E) (hN : Z.N[i]? = some x) (hv : Vis Z.env.scope x)
    (hd : (x == ("__debug__" : Str)) = false := by decide) (hcd : (x == ("__classdict__" : Str)) = false := by decide) :
    PE Z (.Call (.Name x p) [] [] pos) (fun σ H Q => ∃ f, σ[i]? = some (some (.ref f)) ∧ H f = some (LamO f F) ∧ H F.c = some (CodeO F.c F.qual) ∧ sp ws [] H Q E) := by
  refine ⟨fun pins s σ H Q I h => ?_⟩
  obtain ⟨f, hs, h1, h2, q⟩ := h
  refine wpAny_Call_Name_kw (thn ((pe_var (pos := p) hN hv hd hcd).run pins s σ H (fun v H1 => v = .ref f ∧ H1 = H) I ⟨.ref f, hs, rfl, rfl⟩) fun u s1 ⟨v, H1, I1, r1, ev, eH⟩ => ?_)
  subst ev
  rw [eH] at I1
  obtain rfl : u = Value.ref f := r1
  exact PySem.W.callWith_F0 (first := []) (lamAt_of I1 h1) (run_l Fn hr hk hx I1 h1 h2 (cells_base C I1) .nil q)
/-- x(e, ..) -/
theorem pe_callL (Fn : LOk Z.prog Z.w Z.K Z.mg Z.base CX k F ps fr sp) (C : CellsAt F.cl fr ws Z.base fun _ => none) (hr : Room j Z.A) (hk : k ≤ j) (hx : Passes CX Z E) (hN : Z.N[i]? = some x) (hv : Vis Z.env.scope x) (ha : PA Z (e :: es) t)
    (hd : (x == ("__debug__" : Str)) = false := by decide) (hcd : (x == ("__classdict__" : Str)) = false := by decide)
    (he : starEach (e :: es) Z.env = (false, eval e Z.env) :: starEach es Z.env := by rfl) (hpl : (backTo pos (starEach es Z.env)).any (·.1) = false := by rfl) :
    PE Z (.Call (.Name x p) (e :: es) [] pos) (fun σ H Q => ∃ f, σ[i]? = some (some (.ref f)) ∧ H f = some (LamO f F) ∧ t σ H fun vs H1 => H1 f = some (LamO f F) ∧ H1 F.c = some (CodeO F.c F.qual) ∧ sp ws vs H1 Q E) := by
  refine ⟨fun pins s σ H Q I h => ?_⟩
  obtain ⟨f, hs, h1, ht⟩ := h
  refine wpAny_Call_Name_kw (thn ((pe_var (pos := p) hN hv hd hcd).run pins s σ H (fun v H1 => v = .ref f ∧ H1 = H) I ⟨.ref f, hs, rfl, rfl⟩) fun u s1 ⟨v, H1, I1, r1, ev, eH⟩ => ?_)
  subst ev
  rw [eH] at I1
  obtain rfl : u = Value.ref f := r1
  refine PySem.W.callWith_F (first := []) (lamAt_of I1 h1) (thn (ha.run pos pins s1 σ H _ I1 ht) fun us s2 ⟨vs, H2, I2, r, h3, h4, q⟩ => ⟨lamAt_of I2 h3, ?_⟩) he hpl
  exact run_l Fn hr hk hx I2 h3 h4 (cells_base C I2) r q
end
end Hs
namespace Hs
open PySem PySem.Spec PyProof.Rows L2 LamX NdefX
/-! ### a call under a wider base: the caller's cells stand in it, so that they are known in every frame below -/
theorem env_more {X : Cx} {pins : List (Addr × Obj)} {σ : L2.St} {H : Hp} {s : Shared} (I : Inv X pins σ H s) (hfn : ∀ y, X.fn y = true) :
    ∃ base' : Heap, (∀ b o, X.base.get? b = some o → base'.get? b = some o) ∧ (∀ y c, X.env.cells.lookup y = some c → base'.get? c = s.heap.get? c) ∧ Env0 X.prog X.w X.K X.mg base' X.A X.stack s H := by
  have isC : ∀ y c, X.env.cells.lookup y = some c → c ∈ X.env.cells.map (·.2) := fun y c e => List.mem_map.mpr ⟨(y, c), PySem.mem_of_lookup e, rfl⟩
  let cs := (X.env.cells.filter fun q => X.env.cells.lookup q.1 == some q.2).map (·.2)
  have csC : ∀ c, c ∈ cs → ∃ y, X.env.cells.lookup y = some c := fun c hc => by
    obtain ⟨q, hq, e⟩ := List.mem_map.mp hc
    have z := (List.mem_filter.mp hq).2
    exact ⟨q.1, by rw [← e]; exact beq_iff_eq.mp z⟩
  have inC : ∀ y c, X.env.cells.lookup y = some c → c ∈ cs := fun y c e => List.mem_map.mpr ⟨(y, c), List.mem_filter.mpr ⟨PySem.mem_of_lookup e, by rw [beq_iff_eq]; exact e⟩, rfl⟩
  let l := (List.range s.heap.objs.size).filter fun b => (X.base.get? b).isNone && !(cs.contains b)
  have inL : ∀ b, b < s.heap.objs.size → X.base.get? b = none → b ∉ cs → b ∈ l := fun b h1 h2 h3 => by
    refine List.mem_filter.mpr ⟨List.mem_range.mpr h1, ?_⟩
    rw [h2]
    have h4 : cs.contains b = false := by
      cases q : cs.contains b with
      | false => rfl
      | true => exact absurd (List.contains_iff_mem.mp q) h3
    rw [h4] <;> rfl
  have outL : ∀ b, b ∈ l → X.base.get? b = none ∧ b ∉ cs := fun b hb => by
    have z := (List.mem_filter.mp hb).2
    obtain ⟨z1, z2⟩ := Bool.and_eq_true_iff.mp z
    refine ⟨Option.isNone_iff_eq_none.mp z1, fun q => ?_⟩
    rw [List.contains_iff_mem.mpr q] at z2
    cases z2
  have E0 := I.env0
  have up : ∀ b o, X.base.get? b = some o → (PySem.W.hideAll s.heap l).get? b = some o := fun b o e => PySem.W.hideAll_get l (E0.bs b o e).1 fun z => by
    rw [(outL b z).1] at e
    cases e
  refine ⟨PySem.W.hideAll s.heap l, up, fun y c e => ?_, E0.frames, ⟨E0.mod.kin.keeps up, E0.mod.glob.keeps up, ?_, E0.mod.nolimit.keeps up⟩, fun b o e => ?_, Nat.le_of_eq (PySem.W.hideAll_size _ _), ?_, E0.frf, E0.hok, E0.bare⟩
  · obtain ⟨v, o, ho, _⟩ := I.cell y c e
    rw [ho]
    exact PySem.W.hideAll_get l ho fun z => (outL c z).2 (inC y c e)
  · obtain ⟨mb, h1, h2⟩ := E0.mod.blt
    exact ⟨mb, h1.keeps up, h2⟩
  · have e1 := PySem.W.of_hideAll l e
    refine ⟨e1, ?_⟩
    by_cases hc : b ∈ cs
    · obtain ⟨y, hy⟩ := csC b hc
      exact I.freeC y b hy
    · cases hb : X.base.get? b with
      | some o' => exact (E0.bs b o' hb).2
      | none =>
        rw [PySem.W.hideAll_none l (inL b (Heap.lt_size e1) hb hc)] at e
        cases e
  · refine funFrames_none E0.funs fun L hL => ?_
    obtain ⟨hn, o, ho, _⟩ := E0.funs.mem hL
    refine PySem.W.hideAll_none l (inL L (Heap.lt_size ho) hn fun hc => ?_)
    obtain ⟨y, hy⟩ := csC L hc
    rcases List.mem_cons.mp (I.stkSub L hL) with z | z
    · exact I.cne y L hy z
    · obtain ⟨_, o2, ho2, _⟩ := I.ok.funs.mem z
      exact absurd (Nat.lt_of_lt_of_le (Heap.lt_size ho2) (I.ok.cab y L (hfn y) hy)) (Nat.lt_irrefl _)
/-- base' holds the running frame's cells, with what its names stand for -/
def Clo (X : Cx) (σ : L2.St) (base' : Heap) : Prop := ∀ (cl : List (Str × Addr)) (fr : List Str) (js : List Nat), (X.Ok → Caps X cl fr js) → CellsAt cl fr (js.map (slotAt σ)) base' fun _ => none
/-- an own def that gets functions which the running frame made -/
theorem pe_ownB {X : Cx} {k j : Nat} {x : Str} {ps : List Str} {sp : Heap → Sp} {e : Expr} {es : List Expr} {t : TA} {p pos : Pos} (O : ∀ base', (∀ b o, X.base.get? b = some o → base'.get? b = some o) → Own X.prog X.w X.K X.mg base' k x ps (sp base')) (hfn : ∀ y, X.fn y = true) (hr : Room j X.A) (hk : k ≤ j) (hg : Gl X x) (ha : PA X (e :: es) t)
    (hdb : (x == ("__debug__" : Str)) = false := by decide) (he : starEach (e :: es) X.env = (false, eval e X.env) :: starEach es X.env := by rfl) (hpl : (backTo pos (starEach es X.env)).any (·.1) = false := by rfl) :
    PE X (.Call (.Name x p) (e :: es) [] pos) (fun σ H Q => t σ H fun vs H1 => ∀ base', (∀ b o, X.base.get? b = some o → base'.get? b = some o) → Clo X σ base' → sp base' vs H1 Q C8.E0) := by
  obtain ⟨f, fd, _, m, kp, b⟩ := (O X.base fun _ _ z => z).ex
  refine ⟨fun pins s σ H Q I h => ?_⟩
  refine wpAny_Call_Name_kw (ld_glob I hg m ?_ hdb)
  refine PySem.W.callWith_K (h₀ := X.base) I.ok.mod.kin kp (thn (ha.run pos pins s σ H _ I h) fun us s1 ⟨vs, H1, I1, r, q⟩ => ⟨I1.kIn, ?_⟩) he hpl
  obtain ⟨base', up, cells, E1⟩ := env_more I1 hfn
  have q1 := q base' up fun cl fr js cp => cells_in (cells_of I1 (cp I1.ok)) fun y c e => cells y c ((cp I1.ok).sub y c e)
  obtain ⟨f', fd', F, m', kp', b'⟩ := (O base' up).ex
  have ef : f' = f := by
    rw [m] at m'
    cases m'
    rfl
  subst ef
  have hl : vs.length = ps.length := F.len _ _ _ _ q1
  refine wpAny_call (codeAny_mono (F.run X.A X.stack s1 H1 ⟨us, []⟩ us vs Q C8.E0 (hr.mono hk) E1 ?_ r q1) fun r s' hq => ?_)
  · have z := b' s1 us I1.kIn (by rw [List.append_nil, ← r.length, hl])
    rw [List.append_nil] at z
    exact z
  · cases r with
    | error er => exact (show False from hq).elim
    | ok fl =>
      cases fl with
      | ret u => exact I1.after hq
      | next => exact False.elim hq
      | brk => exact False.elim hq
      | cont => exact False.elim hq
/-- f is a function by a lambda whose cells stand in the base; tl: what its call does -/
def Act (P : Program) (w : World) (K : PySem.W.Frag) (mg : Str → Option Value) (base : Heap) (k : Nat) (q : Str) (H : Hp) (f : Addr) (tl : XK → Hp → VK → Prop) : Prop :=
  ∃ (F : LF) (fr : List Str) (ws : List (Option V)) (sp : List (Option V) → Sp), F.qual = q ∧ LOk P w K mg base (L2.CX P w) k F [] fr sp ∧ CellsAt F.cl fr ws base (fun _ => none) ∧ H f = some (LamO f F) ∧ H F.c = some (CodeO F.c F.qual) ∧ tl = fun E H' Q => H' f = some (LamO f F) ∧ sp ws [] H' Q E
/-- what the catcher promises of it -/
def spTried (P : Program) (w : World) (K : PySem.W.Frag) (mg : Str → Option Value) (base : Heap) (k : Nat) (q : Str) (cN cL cK cB cS cM cC : Addr) : Sp := fun vs H Q _ => ∃ (f : Addr) (tl : XK → Hp → VK → Prop), vs = [.ref f] ∧ Act P w K mg base k q H f tl ∧ TTr K cN cL cK cB cS cM cC tl H Q
theorem ok_tried {P : Program} {w : World} {K : PySem.W.Frag} {mg : Str → Option Value} {base : Heap} {g : Addr} {fd : FuncData} {k : Nat} {q : Str} {cN cL cK cB cS cM cC : Addr} (F : FnP K "_law_tried" sTried g fd) (ct : Cats mg cN cL cK cB cS cM cC) :
    FnOk P w K mg base CX0 (k + 1) g fd ["_law_act"] (spTried P w K mg base k q cN cL cK cB cS cM cC) := by
  obtain ⟨oc, od, dV, kV, doc, pm, an, cdv, ctt, osl, rfl, lk, hcd, _, _⟩ := F.ex
  refine ⟨fun vs H Q E h => ?_, fun A outer s H args us vs Q E hr e0 hb r hsp => ?_⟩
  · obtain ⟨f, tl, rfl, _⟩ := h
    rfl
  · obtain ⟨f, tl, rfl, ⟨F, fr, ws, sp, rfl, Fn, C, h1, h2, rfl⟩, hT⟩ := hsp
    refine LamX.run_ofS (N := ["_law_act", "e"]) (ps := ["_law_act"]) (us := us) (vs := [.ref f]) lk hcd scTried hr e0 hb r rfl fun hr' => ?_
    obtain ⟨t', ht', hq'⟩ := tried_gives (X := { cxOf CX0 P w K mg base [] "" (defScope sTried) g cdv A outer s H E with A := A, stack := outer }) (q := F.qual) (g := g) (cdg := cdv) ct f F.c s H Q (fun E H' Q => H' f = some (LamO f F) ∧ sp ws [] H' Q E)
      (fun W pn xe E p1 p2 tk hW => ⟨fun pins s1 σ H1 Q1 I1 h => (pe_callL0 (i := 0) (x := "_law_act") (E := E) Fn C hr' (Nat.le_refl _) (passes_call tk hW) rfl (.inl rfl)).run pins s1 σ H1 Q1 I1 ⟨f, h.1, h.2.2.1, h.2.1, h.2.2.2⟩⟩) h2 hT
    exact ⟨t', ht'.nox, hq'⟩
end Hs
namespace Hs
open PySem PySem.Spec PyProof.Rows L2 Evl LamX
/-- the catcher tells a new tuple of f, whatever is new -/
def Tells (P : Program) (w : World) (K : PySem.W.Frag) (mg : Str → Option Value) (base : Heap) (k : Nat) (q : Str) (cN cL cK cB cS cM cC : Addr) (H : Hp) (f : Addr) (xs : List V) : Prop :=
  ∀ H', Ex H H' → ∃ tl, Act P w K mg base k q H' f tl ∧ ∀ Q : VK, (∀ p H2, H' p = none → Ex H' H2 → H2 p = some (.tup xs) → Q (.ref p) H2) → TTr K cN cL cK cB cS cM cC tl H' Q
theorem Tells.ext {P : Program} {w : World} {K : PySem.W.Frag} {mg : Str → Option Value} {base : Heap} {k : Nat} {q : Str} {cN cL cK cB cS cM cC : Addr} {H H1 : Hp} {f : Addr} {xs : List V} (h : Tells P w K mg base k q cN cL cK cB cS cM cC H f xs) (e : Ex H H1) : Tells P w K mg base k q cN cL cK cB cS cM cC H1 f xs := fun H' e' => h H' (e.trans e')
/-- tuples that stand -/
def Tups (H : Hp) (ps : List Addr) (outs : List (List V)) : Prop := ∀ (i : Nat) (p : Addr) (xs : List V), ps[i]? = some p → outs[i]? = some xs → H p = some (.tup xs)
def spAll (P : Program) (w : World) (K : PySem.W.Frag) (mg : Str → Option Value) (base : Heap) (k : Nat) (q : Str) (cN cL cK cB cS cM cC : Addr) : Sp := fun vs H Q _ => ∃ (a : Addr) (fs : List Addr) (outs : List (List V)), vs = [.ref a] ∧ SqL K H a (fs.map V.ref) ∧ fs.length = outs.length ∧ fs.length ≤ 1000 ∧
  (∀ (i : Nat) (f : Addr) (xs : List V), fs[i]? = some f → outs[i]? = some xs → Tells P w K mg base k q cN cL cK cB cS cM cC H f xs) ∧
  ∀ (p : Addr) (ps : List Addr) (H' : Hp), H p = none → Ex H H' → H' p = some (.lst (ps.map V.ref)) → ps.length = outs.length → Tups H' ps outs → Q (.ref p) H'
section
variable {P : Program} {w : World} {K : PySem.W.Frag} {mg : Str → Option Value} {base : Heap} {f : Addr} {fd : FuncData} {k : Nat} {q : Str} {cN cL cK cB cS cM cC : Addr}
abbrev sAll : Stmt := top 108
theorem scAll : FnScope ["_law_acts", "_law_act"] ["_law_acts"] (defScope sAll) := ⟨rfl, rfl, rfl, by decide +kernel, rfl, by decide +kernel, by decide +kernel⟩
theorem ok_all (F : FnP K "_law_all_tried" sAll f fd) (O__law_tried : Own P w K mg base (k + 1) "_law_tried" ["_law_act"] (spTried P w K mg base k q cN cL cK cB cS cM cC)) : FnOk P w K mg base CX0 (k + 2) f fd ["_law_acts"] (spAll P w K mg base k q cN cL cK cB cS cM cC) := by
  have nd := scAll.nd
  refine F.ok scAll (fun vs H Q E h => ?_) (fun cdv A outer s H vs Q E hr h => ⟨_, PSs.nox (pss_one (ps_ret (pe_lc (own := [("_law_act", 1)]) rfl nd (pi_list (pv 0)) (blkOk_by (N := ["_law_acts", "_law_act"]) (sc := defScope (Hs.top 108)) (by decide +kernel)) (fun _ _ _ _ _ => (pg_name (i := 1) nd rfl (Or.inl rfl))) (fun _ _ _ _ _ => pts_nil) (fun _ _ _ _ _ => (Hs.pe_own O__law_tried hr (by first | decide | omega) (by rfl) (pa_cons (pv 1) pa_nil)))))), ?_⟩)
  · obtain ⟨a, fs, outs, rfl, _⟩ := h
    rfl
  · obtain ⟨a, fs, outs, rfl, hS, hl, hz, hT, kk⟩ := h
    refine ⟨_, rfl, a, rfl, ⟨_, hS⟩, fun D hD => ?_⟩
    refine lc_list (xs := fs.map V.ref) (fun i H' => Ex H H' ∧ ∃ ps : List Addr, H' D = some (.lst (ps.map V.ref)) ∧ ps.length = i ∧ Tups H' ps outs) ⟨Ex.new hD, [], upd_same, rfl, fun i p xs h => by cases h⟩ (fun i H' _ p => ex_l p.1 hS) (fun i x H' hi p => ⟨rfl, ?_⟩) (fun H' p => ?_)
    · obtain ⟨e, ps, h1, h2, h3⟩ := p
      rw [List.getElem?_map] at hi
      obtain ⟨g, hg, rfl⟩ := Option.map_eq_some_iff.mp hi
      have hlt : i < fs.length := (List.getElem?_eq_some_iff.mp hg).1
      obtain ⟨xs, hxs⟩ : ∃ xs, outs[i]? = some xs := ⟨_, List.getElem?_eq_getElem (by omega)⟩
      obtain ⟨tl, ha, ht⟩ := hT i g xs hg hxs H' e
      refine ⟨_, rfl, g, tl, rfl, ha, ht _ fun r H2 hr2 e2 h4 => ⟨_, e2 _ _ h1, sz_lt (by rw [List.length_map]; omega), Ex.mut (e.trans e2) hD, ps ++ [r], by rw [upd_same, List.map_append] <;> rfl, by rw [List.length_append, h2] <;> rfl, fun j p ys hp hy => ?_⟩⟩
      have nD : ∀ p ys, H2 p = some (.tup ys) → p ≠ D := fun p ys z w => by
        rw [w, e2 _ _ h1] at z
        cases z
      by_cases hj : j < ps.length
      · rw [List.getElem?_append_left hj] at hp
        have z := e2 _ _ (h3 j p ys hp hy)
        rw [upd_ne (nD _ _ z)]
        exact z
      · rw [List.getElem?_append_right (by omega)] at hp
        have hj2 : j = i := by
          have : j - ps.length < 1 := (List.getElem?_eq_some_iff.mp hp).1
          omega
        subst hj2
        have e0 : j - ps.length = 0 := by omega
        rw [e0] at hp
        cases hp
        rw [hxs] at hy
        cases hy
        rw [upd_ne (nD _ _ h4)]
        exact h4
    · obtain ⟨e, ps, h1, h2, h3⟩ := p
      exact kk D ps H' hD e h1 (by rw [h2, List.length_map, hl]) h3
end
end Hs
namespace Hs
open PySem PySem.Spec PyProof.Rows L2 Evl
def RetU (xs : List V) (H : Hp) (Q : VK) : Prop := ∀ p H2, H p = none → Ex H H2 → H2 p = some (.tup xs) → Q (.ref p) H2
/-- an own def that may raise, by its promise; dvs: the defaults that fill up -/
structure OwnX (P : Program) (w : World) (K : PySem.W.Frag) (mg : Str → Option Value) (base : Heap) (k : Nat) (x : Str) (ps : List Str) (dvs : List V) (sp : Sp) : Prop where
  ex : ∃ (f : Addr) (fd : FuncData) (ds : List Value), FnOk P w K mg base (L2.CX P w) k f fd ps sp ∧ mg x = some (.ref f) ∧ PySem.W.keepIn K (.ref f) = true ∧ Vals dvs ds ∧ Binds K fd ps ds
/-- .. where it raises nothing -/
theorem pe_ownX {X : Cx} {k j : Nat} {x : Str} {ps : List Str} {dvs : List V} {sp : Sp} {e : Expr} {es : List Expr} {t : TA} {p pos : Pos} (O : OwnX X.prog X.w X.K X.mg X.base k x ps dvs sp) (hr : Room j X.A) (hk : k ≤ j) (hg : Gl X x) (ha : PA X (e :: es) t)
    (hdb : (x == ("__debug__" : Str)) = false := by decide) (he : starEach (e :: es) X.env = (false, eval e X.env) :: starEach es X.env := by rfl) (hpl : (backTo pos (starEach es X.env)).any (·.1) = false := by rfl) :
    PE X (.Call (.Name x p) (e :: es) [] pos) (tCall sp dvs E0 t) := by
  obtain ⟨f, fd, ds, F, m, kp, d, b⟩ := O.ex
  exact pe_call F (hr.mono hk) hg m kp b d passL ha hdb he hpl
/-- .. where what it raises is taken -/
theorem pe_ownT {X : Cx} {k j : Nat} {x : Str} {ps : List Str} {dvs : List V} {sp : Sp} {e : Expr} {es : List Expr} {t : TA} {p pos : Pos} {Ex : XK} (O : OwnX X.prog X.w X.K X.mg X.base k x ps dvs sp) (hr : Room j X.A) (hk : k ≤ j) (hg : Gl X x) (hx : Passes (L2.CX X.prog X.w) X Ex) (ha : PA X (e :: es) t)
    (hdb : (x == ("__debug__" : Str)) = false := by decide) (he : starEach (e :: es) X.env = (false, eval e X.env) :: starEach es X.env := by rfl) (hpl : (backTo pos (starEach es X.env)).any (·.1) = false := by rfl) :
    PE X (.Call (.Name x p) (e :: es) [] pos) (tCall sp dvs Ex t) := by
  obtain ⟨f, fd, ds, F, m, kp, d, b⟩ := O.ex
  exact pe_call F (hr.mono hk) hg m kp b d hx ha hdb he hpl
def rHas : R2 := fun x y H Q => ∃ (c : Nat) (z : Str), x = .str ⟨#[c]⟩ ∧ y = .str z ∧ Q (.bl (decide (c ∈ z.cps.toList))) H
theorem op_has {X : Cx} : OpR X (compareOp .In) rHas := op_in_sign
theorem pi_listK {X : Cx} {K : PySem.W.Frag} {tg l : Expr} {tl : TE} (hl : PE X l tl) (hK : X.K = K := by rfl) : PI X tg l (iList K tl) := by
  subst hK
  exact pi_list hl
end Hs
namespace Hs
open PySem PySem.Spec PyProof.Rows L2 Evl
/-! ### the law -/
theorem tabs_but {T : List (Addr × Str)} {H H' : Hp} {b : Addr} {xs : List V} (t : LamX.Tabs T H) (hb : H b = some (.lst xs)) (k : But H H' b) : LamX.Tabs T H' := fun p hp => by
  obtain ⟨ps, h1, h2, h3⟩ := t p hp
  refine ⟨ps, k _ _ h1 (ne_of h1 hb (by intro z; cases z)), h2, fun pos cv hc => ?_⟩
  obtain ⟨c, e1, e2⟩ := h3 pos cv hc
  exact ⟨c, e1, k _ _ e2 (ne_of e2 hb (by intro z; unfold LamX.CodeO at z; cases z))⟩
theorem tabs_upd {T : List (Addr × Str)} {H : Hp} {b : Addr} {xs : List V} {o : HO} (t : LamX.Tabs T H) (hb : H b = some (.lst xs)) : LamX.Tabs T (upd H b o) := tabs_but t hb (But.upd But.refl)
theorem bag_extN {H H' : Hp} {b l : Addr} {ns : List Int} {n : Nat} (B : BagAt H b l ns n) (e : LamX.ExtN H H') : BagAt H' b l ns n := by
  obtain ⟨⟨i, z, s, c, h1, h2, h3, h4, h5⟩, h6, h7⟩ := B
  exact ⟨⟨i, z, s, c, e _ _ h1 (fun _ z => by cases z), h2, h3, h4, h5⟩, e _ _ h6 (fun _ z => by cases z), h7⟩
theorem bag_upd {H : Hp} {b l a : Addr} {ns : List Int} {n : Nat} {o : HO} (B : BagAt H b l ns n) (h1 : b ≠ a) (h2 : l ≠ a) : BagAt (upd H a o) b l ns n := by
  obtain ⟨⟨i, z, s, c, q1, q2, q3, q4, q5⟩, q6, q7⟩ := B
  exact ⟨⟨i, z, s, c, by rw [upd_ne h1]; exact q1, q2, q3, q4, q5⟩, by rw [upd_ne h2]; exact q6, q7⟩
theorem bag_lst {H : Hp} {b l : Addr} {ns : List Int} {n : Nat} (B : BagAt H b l ns n) : ∃ xs, H b = some (.lst xs) := by
  obtain ⟨⟨i, z, s, c, h1, _⟩, _⟩ := B
  exact ⟨_, h1⟩
end Hs
namespace Hs
open PySem PySem.Spec PyProof.Rows L2 Evl LamX NdefX
/-- lambda: g(x1, x2), both names captured -/
theorem lok_call2 {P : Program} {w : World} {K : PySem.W.Frag} {mg : Str → Option Value} {base : Heap} {F : LF} {g x1 x2 : Str} {sp : Sp} {k : Nat} {ps : List Str} {p0 p1 p2 pos : Pos} (hb : F.body = .Call (.Name g p0) [.Name x1 p1, .Name x2 p2] [] pos) (hp : F.params = ⟨[], [], none, [], [], none, []⟩)
    (S : NScope [x1, x2] [] [x1, x2] F.scope) (hg : F.scope.names.lookup g = some .globalImplicit) (O : OwnX P w K mg base k g ps [] sp) (hd : (g == ("__debug__" : Str)) = false := by decide) (hd1 : (x1 == ("__debug__" : Str)) = false := by decide) (hc1 : (x1 == ("__classdict__" : Str)) = false := by decide) (hd2 : (x2 == ("__debug__" : Str)) = false := by decide) (hc2 : (x2 == ("__classdict__" : Str)) = false := by decide) :
    LOk P w K mg base (L2.CX P w) (k + 1) F [] [x1, x2] (fun ws vs H Q E => vs = [] ∧ ∃ v1 v2, ws = [some v1, some v2] ∧ sp [v1, v2] H Q E) := by
  refine lok_of S (fun pm ctv us hl => ?_) (fun ws vs H Q E h => by rw [h.1] <;> rfl) (fun A outer s H f vs ws Q E hr hl h => ?_)
  · cases us with
    | nil =>
      rw [hp]
      rfl
    | cons u r => cases hl
  · obtain ⟨rfl, v1, v2, rfl, hs⟩ := h
    refine ⟨_, by rw [hb]; exact pe_ownT O hr (Nat.le_refl _) hg (passes_call (E := E) (takes_of rfl rfl rfl rfl) (fun _ _ _ _ h => h)) (pa_cons (pe_var (i := 0) rfl (.inr (.inr (S.frk _ (by simp)))) hd1 hc1) (pa_cons (pe_var (i := 1) rfl (.inr (.inr (S.frk _ (by simp)))) hd2 hc2) pa_nil)) hd, ?_⟩
    exact ⟨_, rfl, _, rfl, hs⟩
/-- an error flies out of f: the catcher tells its word -/
theorem tells_fly {P : Program} {w : World} {K : PySem.W.Frag} {mg : Str → Option Value} {base : Heap} {k : Nat} {q wd : Str} {cN cL cK cB cS cM cC C : Addr} {H : Hp} {f : Addr} {F : LF} {fr : List Str} {ws : List (Option V)} {sp : List (Option V) → Sp} (Fn : LOk P w K mg base (L2.CX P w) k F [] fr sp) (hC : CellsAt F.cl fr ws base fun _ => none) (hq : F.qual = q)
    (hf : H f = some (LamO f F)) (hc : H F.c = some (CodeO F.c F.qual)) (wc : Word K C cN cL cK cB cS cM cC) (hs : ∀ H' Q E, Ex H H' → (∀ d H2, Ex H' H2 → H' d = none → H2 d = some (.xd [("word", .str wd)]) → E (.ref C) (some d) H2) → sp ws [] H' Q E) : Tells P w K mg base k q cN cL cK cB cS cM cC H f [.str wd] := fun H' e =>
  ⟨_, ⟨F, fr, ws, sp, hq, Fn, hC, e _ _ hf, e _ _ hc, rfl⟩, fun Q kk => ⟨e _ _ hf, hs H' _ _ e fun d H2 e2 _ hd => ⟨C, d, _, wd, rfl, rfl, wc, hd, rfl, fun p hp => kk p _ (fresh_back e2 hp) (e2.trans (Ex.new hp)) upd_same⟩⟩⟩
end Hs
namespace Hs
open PySem PySem.Spec PyProof.Rows L2
/-! ### for x in zip(*rows), x a name: the tuple that was handed out may be held or gone -/
abbrev IsZipF (h : Heap) (z TI TO : Addr) (f0 : Value) (f1 : Bool) : Prop := h.get? z = some { cls := .type "zip", dict := none, data := .fields #[f0, .bool f1, .bool false, .ref TI, .ref TO], slots := #[] }
abbrev IsTupA (h : Heap) (T : Addr) (arr : Array Value) : Prop := h.get? T = some { cls := .type "tuple", data := .seq arr }
def OwnF (f0 : Value) : Prop := f0 = .none ∨ ∃ T : Nat, f0 = rawInt T
theorem _root_.PySem.Heap.IsTuple.at' {h h' : Heap} {l : Addr} {xs : Array Value} (x : h.IsTuple l xs) (k : ∀ o, h.get? l = some o → h'.get? l = some o) : h'.IsTuple l xs := by
  obtain ⟨o, ho, r⟩ := x
  exact ⟨o, k o ho, r⟩
theorem set2 {arr : Array Value} {x1 x2 : Value} (h : arr.size = 2) : ((arr).setIfInBounds 0 x1).setIfInBounds 1 x2 = #[x1, x2] := by
  obtain ⟨l⟩ := arr
  match l, h with
  | [a, b], _ => rfl
theorem set3 {arr : Array Value} {x1 x2 x3 : Value} (h : arr.size = 3) : (((arr).setIfInBounds 0 x1).setIfInBounds 1 x2).setIfInBounds 2 x3 = #[x1, x2, x3] := by
  obtain ⟨l⟩ := arr
  match l, h with
  | [a, b, c], _ => rfl
section
variable {prog : Program} {w : World} {A : Around} {E : Value → Shared → Prop} {s : Shared}
theorem upSeq {T : Addr} {arr : Array Value} {x : Value} {k : Nat} {Q : Unit → Shared → Prop} (hT : IsTupA s.heap T arr) (hn : arr.size ≤ 10) (h : ∀ h', IsTupA h' T (arr.setIfInBounds k x) → Heap.SameBut T s.heap h' → Q () { s with heap := h' }) : wpAny (model prog w) A (updateSeq T (·.setIfInBounds k x)) Q E s := by
  refine wpAny_updateSeq hT rfl (h _ ?_ (Heap.SameBut.update ..)) (hz := Nat.le_trans hn (by decide)) (_hz' := by rw [Array.size_setIfInBounds]; exact Nat.le_trans hn (by decide))
  rw [IsTupA, Heap.get?_update_self _ hT rfl]
  simp [Obj.mapSeq]
theorem owned_any {z TI TO : Addr} {f0 : Value} {f1 : Bool} {Q : Bool → Shared → Prop} (hz : IsZipF s.heap z TI TO f0 f1) (hf0 : OwnF f0) (ht : Q true s) (hf : ∀ h', IsZipF h' z TI TO f0 true → Heap.SameBut z s.heap h' → Q false { s with heap := h' }) :
    wpAny (model prog w) A (Builtin.SmallTypes.ownedTupleIsFree (.ref z)) Q E s := by
  unfold Builtin.SmallTypes.ownedTupleIsFree
  rcases hf0 with rfl | ⟨T, rfl⟩
  · exact wpAny_bind (wpAny_field hz rfl (x := .none) rfl (wpAny_pure ht))
  · refine wpAny_bind (wpAny_field hz rfl (x := rawInt T) rfl ?_)
    show wpAny _ _ (loadIfAlive ((T : Int).toNat) >>= _) _ _ _
    rw [Int.toNat_natCast]
    have al : ∀ {Q' : Option Obj → Shared → Prop}, Q' (s.heap.get? T) s → wpAny (model prog w) A (loadIfAlive T) Q' E s := fun h => fun _ _ _ => h
    refine wpAny_bind (al ?_)
    cases hg : s.heap.get? T with
    | none =>
      simp only [Option.isNone_none, if_true]
      exact wpAny_pure ht
    | some o =>
      simp only [Option.isNone_some, Bool.false_eq_true, if_false]
      refine wpAny_bind (wpAny_field hz rfl (x := .bool f1) rfl ?_)
      cases f1 with
      | true =>
        rw [if_neg (show ¬ ((Value.bool true != Value.bool true) = true) from Bool.false_ne_true)]
        exact wpAny_pure (hf s.heap hz (Heap.SameBut.refl _ _))
      | false =>
        rw [if_pos (show (Value.bool false != Value.bool true) = true from rfl)]
        exact wpAny_bind (wpAny_setField_rec hz (by simp) fun h₁ hz₁ hs₁ => wpAny_pure (hf h₁ hz₁ hs₁))
theorem pyIter_zipF {z TI TO : Addr} {f0 : Value} {f1 : Bool} {Q : Value → Shared → Prop} (hz : IsZipF s.heap z TI TO f0 f1) (h : Q (.ref z) s) : wpAny (model prog w) A (pyIter (.ref z)) Q E s := by
  have hT : s.TypeIs (.ref z) "zip" := ⟨_, hz, rfl⟩
  refine wpAny_pyIter_slot hT F.slot_zip_iter (wpAny_call_entry F.slot_zip_iter hT F.entry_zip_iter ?_ (F.args_zip_iter_1 _))
  show wpAny _ _ (ret (.ref z)) _ _ s
  exact wpAny_pure ⟨_, rfl, "zip", _, hT, F.slot_zip_next.lookup, h⟩
end
end Hs
namespace Hs
open PySem PySem.Spec PyProof.Rows L2
structure ZA2 (z TI TO i1 i2 l1 l2 : Addr) : Prop where
  TIz : TI ≠ z
  TOz : TO ≠ z
  TITO : TI ≠ TO
  i1z : i1 ≠ z
  TIi1 : TI ≠ i1
  TOi1 : TO ≠ i1
  i2z : i2 ≠ z
  TIi2 : TI ≠ i2
  TOi2 : TO ≠ i2
  i1i2 : i1 ≠ i2
  l1z : l1 ≠ z
  l1TO : l1 ≠ TO
  l1i1 : l1 ≠ i1
  l1i2 : l1 ≠ i2
  l2z : l2 ≠ z
  l2TO : l2 ≠ TO
  l2i1 : l2 ≠ i1
  l2i2 : l2 ≠ i2
section
variable {prog : Program} {w : World} {A : Around} {E : Value → Shared → Prop} {s : Shared}
theorem z2_next_item {z TI TO i1 i2 l1 l2 : Addr} {k : Nat} {xs1 xs2 : Array Value} {f0 : Value} {f1 : Bool} {arr : Array Value} {x1 x2 : Value} {Q : Value → Shared → Prop} (D : ZA2 z TI TO i1 i2 l1 l2) (hz : IsZipF s.heap z TI TO f0 f1) (hf0 : OwnF f0) (hTI : IsTupA s.heap TI #[.ref i1, .ref i2]) (hTO : IsTupA s.heap TO arr) (hsz : arr.size = 2) (h1 : s.heap.IsTupleIter i1 l1 k) (h2 : s.heap.IsTupleIter i2 l2 k) (hl1 : s.heap.IsTuple l1 xs1) (hl2 : s.heap.IsTuple l2 xs2) (hx1 : xs1[k]? = some x1) (hx2 : xs2[k]? = some x2)
    (hQ : ∀ h' f0' f1' arr', OwnF f0' → IsZipF h' z TI TO f0' f1' → IsTupA h' TO arr' → arr'.size = 2 → h'.IsTupleIter i1 l1 (k + 1) → h'.IsTupleIter i2 l2 (k + 1) → IsTupA h' s.heap.objs.size #[x1, x2] → h'.objs.size = s.heap.objs.size + 1 → (∀ c o, c ≠ z → c ≠ TO → c ≠ i1 → c ≠ i2 → s.heap.get? c = some o → h'.get? c = some o) → Q (.ref s.heap.objs.size) { s with heap := h' }) :
    wpAny (model prog w) A (Builtin.«zip.__next__» ⟨[.ref z], []⟩) (fun fin s' => ∃ v, fin = .done (.ret v) ∧ Q v s') E s := by
  show wpAny _ _ (field (.ref z) 2 >>= _) _ _ _
  refine wpAny_bind (wpAny_field hz rfl (x := .bool false) rfl ?_)
  show wpAny _ _ (field (.ref z) 3 >>= _) _ _ _
  refine wpAny_bind (wpAny_field hz rfl (x := .ref TI) rfl ?_)
  refine wpAny_bind (wpAny_seqItems hTI rfl ?_)
  show wpAny _ _ (Builtin.SmallTypes.ownedTupleIsFree (.ref z) >>= _) _ _ _
  refine wpAny_bind (owned_any hz hf0 ?_ fun h₁ hz₁ hs₁ => ?_)
  · simp only [if_true]
    refine wpAny_bind (wpAny_rule ?_)
    refine wpAny_bind (wpAny_field hz rfl (x := .ref TO) rfl ?_)
    refine wpAny_bind (wpAny_setField_rec hz (by simp) fun h₀ hz₀ hs₀ => ?_)
    replace hz₀ : IsZipF h₀ z TI TO .ellipsis f1 := hz₀
    have K0 : ∀ c o, c ≠ z → s.heap.get? c = some o → h₀.get? c = some o := fun c o c1 e => hs₀.extBut _ _ c1 e
    have N0 : h₀.objs.size = s.heap.objs.size := hs₀.1
    have T0 : IsTupA h₀ TO arr := K0 _ _ D.TOz hTO
    have J1_0 : h₀.IsTupleIter i1 l1 k := h1.at fun o e => K0 _ o D.i1z e
    have L1_0 : h₀.IsTuple l1 xs1 := hl1.at' fun o e => K0 _ o D.l1z e
    have J2_0 : h₀.IsTupleIter i2 l2 k := h2.at fun o e => K0 _ o D.i2z e
    have L2_0 : h₀.IsTuple l2 xs2 := hl2.at' fun o e => K0 _ o D.l2z e
    refine wpAny_bind ?_
    simp only [List.zipIdx_cons, List.zipIdx_nil, List.forIn_cons, List.forIn_nil]
    refine wpAny_bind (wpAny_bind (wpAny_onRaise ?_))
    show wpAny _ _ (Builtin.SmallTypes.nextOf (.ref i1) >>= _) _ _ _
    refine wpAny_bind (RZ.nextOf_tuple_item J1_0 L1_0 hx1 fun g1 m1 gs1 => wpAny_pure ?_)
    have V1 : IsTupA g1 TO (arr) := gs1.extBut _ _ D.TOi1 T0
    refine wpAny_bind (wpAny_seqItems V1 rfl ?_)
    refine wpAny_bind (upSeq V1 (by simp [hsz]) fun u1 T1 us1 => ?_)
    refine wpAny_bind (wpAny_letGo (wpAny_pure ?_))
    have J1_1 : u1.IsTupleIter i1 l1 (k + 1) := m1.extBut us1.extBut D.TOi1.symm
    have L1_1 : u1.IsTuple l1 xs1 := (L1_0.extBut gs1.extBut D.l1i1).extBut us1.extBut D.l1TO
    have J2_1 : u1.IsTupleIter i2 l2 k := (J2_0.extBut gs1.extBut D.i1i2.symm).extBut us1.extBut D.TOi2.symm
    have L2_1 : u1.IsTuple l2 xs2 := (L2_0.extBut gs1.extBut D.l2i1).extBut us1.extBut D.l2TO
    have K1 : ∀ c o, c ≠ z → c ≠ TO → c ≠ i1 → s.heap.get? c = some o → u1.get? c = some o := fun c o c1 c2 q1 e => us1.extBut _ _ c2 (gs1.extBut _ _ q1 (K0 c o c1  e))
    have Z1 : IsZipF u1 z TI TO .ellipsis f1 := us1.extBut _ _ D.TOz.symm (gs1.extBut _ _ D.i1z.symm hz₀)
    have N1 : u1.objs.size = s.heap.objs.size := by rw [us1.1, gs1.1, N0]
    refine wpAny_bind (wpAny_bind (wpAny_onRaise ?_))
    show wpAny _ _ (Builtin.SmallTypes.nextOf (.ref i2) >>= _) _ _ _
    refine wpAny_bind (RZ.nextOf_tuple_item J2_1 L2_1 hx2 fun g2 m2 gs2 => wpAny_pure ?_)
    have V2 : IsTupA g2 TO ((arr).setIfInBounds 0 x1) := gs2.extBut _ _ D.TOi2 T1
    refine wpAny_bind (wpAny_seqItems V2 rfl ?_)
    refine wpAny_bind (upSeq V2 (by simp [hsz]) fun u2 T2 us2 => ?_)
    refine wpAny_bind (wpAny_letGo (wpAny_pure ?_))
    have J1_2 : u2.IsTupleIter i1 l1 (k + 1) := (J1_1.extBut gs2.extBut D.i1i2).extBut us2.extBut D.TOi1.symm
    have L1_2 : u2.IsTuple l1 xs1 := (L1_1.extBut gs2.extBut D.l1i2).extBut us2.extBut D.l1TO
    have J2_2 : u2.IsTupleIter i2 l2 (k + 1) := m2.extBut us2.extBut D.TOi2.symm
    have L2_2 : u2.IsTuple l2 xs2 := (L2_1.extBut gs2.extBut D.l2i2).extBut us2.extBut D.l2TO
    have K2 : ∀ c o, c ≠ z → c ≠ TO → c ≠ i1 → c ≠ i2 → s.heap.get? c = some o → u2.get? c = some o := fun c o c1 c2 q1 q2 e => us2.extBut _ _ c2 (gs2.extBut _ _ q2 (K1 c o c1 c2 q1 e))
    have Z2 : IsZipF u2 z TI TO .ellipsis f1 := us2.extBut _ _ D.TOz.symm (gs2.extBut _ _ D.i2z.symm Z1)
    have N2 : u2.objs.size = s.heap.objs.size := by rw [us2.1, gs2.1, N1]
    refine wpAny_pure ?_
    refine wpAny_bind (wpAny_seqItems T2 rfl ?_)
    have ea : (((arr).setIfInBounds 0 x1).setIfInBounds 1 x2) = #[x1, x2] := set2 hsz
    rw [ea] at T2 ⊢
    refine wpAny_bind (wpAny_newTuple ?_)
    show wpAny _ _ (Builtin.SmallTypes.ownedTupleHandOut (.ref z) (.ref u2.objs.size) >>= _) _ _ _
    refine wpAny_bind ?_
    unfold Builtin.SmallTypes.ownedTupleHandOut
    have zlt : z < u2.objs.size := Heap.lt_size Z2
    have hz₆ : IsZipF (u2.push { cls := .type "tuple", data := .seq #[x1, x2] }) z TI TO .ellipsis f1 := Heap.get?_push_of_some _ Z2
    refine wpAny_bind (wpAny_setField_rec hz₆ (by simp) fun h₇ hz₇ hs₇ => ?_)
    replace hz₇ : IsZipF h₇ z TI TO (rawInt u2.objs.size) f1 := hz₇
    refine wpAny_setField_rec hz₇ (by simp) fun h₈ hz₈ hs₈ => ?_
    replace hz₈ : IsZipF h₈ z TI TO (rawInt u2.objs.size) false := hz₈
    have up : ∀ c o, c ≠ z → u2.get? c = some o → h₈.get? c = some o := fun c o c1 e => hs₈.extBut _ _ c1 (hs₇.extBut _ _ c1 (Heap.get?_push_of_some _ e))
    have hT₈ : IsTupA h₈ u2.objs.size #[x1, x2] := hs₈.extBut _ _ (Nat.ne_of_gt zlt) (hs₇.extBut _ _ (Nat.ne_of_gt zlt) (Heap.get?_push_size _ rfl))
    have hz8 : h₈.objs.size = u2.objs.size + 1 := by rw [hs₈.1, hs₇.1, Heap.size_push]
    refine wpAny_pure ⟨_, rfl, ?_⟩
    show Q (.ref u2.objs.size) _
    rw [N2] at hz₈ hT₈ hz8 ⊢
    exact hQ h₈ _ _ _ (.inr ⟨_, rfl⟩) hz₈ (up _ _ D.TOz T2) rfl (J1_2.at fun o e => up _ o D.i1z e) (J2_2.at fun o e => up _ o D.i2z e) hT₈ hz8 fun c o c1 c2 q1 q2 e => up c o c1 (K2 c o c1 c2 q1 q2 e)
  · simp only [Bool.false_eq_true, if_false]
    have K0 : ∀ c o, c ≠ z → s.heap.get? c = some o → h₁.get? c = some o := fun c o c1 e => hs₁.extBut _ _ c1 e
    have J1_0 : h₁.IsTupleIter i1 l1 k := h1.at fun o e => K0 _ o D.i1z e
    have L1_0 : h₁.IsTuple l1 xs1 := hl1.at' fun o e => K0 _ o D.l1z e
    have J2_0 : h₁.IsTupleIter i2 l2 k := h2.at fun o e => K0 _ o D.i2z e
    have L2_0 : h₁.IsTuple l2 xs2 := hl2.at' fun o e => K0 _ o D.l2z e
    refine wpAny_bind ?_
    rw [← Array.forIn_toList]
    simp only [List.forIn_cons, List.forIn_nil]
    refine wpAny_bind (wpAny_bind (wpAny_holding ?_))
    show wpAny _ _ (Builtin.SmallTypes.nextOf (.ref i1) >>= _) _ _ _
    refine wpAny_bind (RZ.nextOf_tuple_item (s := { s with heap := h₁ }) J1_0 L1_0 hx1 fun g1 m1 gs1 => wpAny_pure ?_)
    refine wpAny_pure ?_
    have J1_1 : g1.IsTupleIter i1 l1 (k + 1) := m1
    have L1_1 : g1.IsTuple l1 xs1 := L1_0.extBut gs1.extBut D.l1i1
    have J2_1 : g1.IsTupleIter i2 l2 k := J2_0.extBut gs1.extBut D.i1i2.symm
    have L2_1 : g1.IsTuple l2 xs2 := L2_0.extBut gs1.extBut D.l2i1
    refine wpAny_bind (wpAny_bind (wpAny_holding ?_))
    show wpAny _ _ (Builtin.SmallTypes.nextOf (.ref i2) >>= _) _ _ _
    refine wpAny_bind (RZ.nextOf_tuple_item (s := { s with heap := g1 }) J2_1 L2_1 hx2 fun g2 m2 gs2 => wpAny_pure ?_)
    refine wpAny_pure (wpAny_pure ?_)
    have J1_2 : g2.IsTupleIter i1 l1 (k + 1) := J1_1.extBut gs2.extBut D.i1i2
    have L1_2 : g2.IsTuple l1 xs1 := L1_1.extBut gs2.extBut D.l1i2
    have J2_2 : g2.IsTupleIter i2 l2 (k + 1) := m2
    have L2_2 : g2.IsTuple l2 xs2 := L2_1.extBut gs2.extBut D.l2i2
    show wpAny _ _ (newTuple [x1, x2] >>= _) _ _ _
    refine wpAny_bind (wpAny_newTuple ?_)
    have hsz' : g2.objs.size = s.heap.objs.size := by rw [gs2.1, gs1.1, hs₁.1]
    have hz3 : IsZipF g2 z TI TO f0 true := (gs2.extBut _ _ D.i2z.symm (gs1.extBut _ _ D.i1z.symm hz₁))
    have hk : ∀ c o, c ≠ z → c ≠ i1 → c ≠ i2 → s.heap.get? c = some o → g2.get? c = some o := fun c o c1 q1 q2 e => (gs2.extBut _ _ q2 (gs1.extBut _ _ q1 (K0 c o c1 e)))
    refine wpAny_pure ⟨_, rfl, ?_⟩
    show Q (.ref g2.objs.size) _
    have hp : IsTupA (g2.push { cls := .type "tuple", data := .seq #[x1, x2] }) g2.objs.size #[x1, x2] := Heap.get?_push_size _ rfl
    have hz4 : (g2.push { cls := .type "tuple", data := .seq #[x1, x2] }).objs.size = g2.objs.size + 1 := Heap.size_push ..
    rw [hsz'] at hp hz4 ⊢
    exact hQ _ _ _ _ hf0 (Heap.get?_push_of_some _ hz3) (Heap.get?_push_of_some _ (hk _ _ D.TOz D.TOi1 D.TOi2 hTO)) hsz (J1_2.at fun o e => Heap.get?_push_of_some _ e) (J2_2.at fun o e => Heap.get?_push_of_some _ e) hp hz4 fun c o c1 c2 q1 q2 e => Heap.get?_push_of_some _ (hk c o c1 q1 q2 e)
theorem z2_next_end {z TI TO i1 i2 l1 l2 : Addr} {k : Nat} {xs1 xs2 : Array Value} {f0 : Value} {f1 : Bool} {arr : Array Value} {Q : Fin → Shared → Prop} (hh : A.handled = none) (D : ZA2 z TI TO i1 i2 l1 l2) (hz : IsZipF s.heap z TI TO f0 f1) (hf0 : OwnF f0) (hTI : IsTupA s.heap TI #[.ref i1, .ref i2]) (hTO : IsTupA s.heap TO arr) (hsz : arr.size = 2) (h1 : s.heap.IsTupleIter i1 l1 k) (h2 : s.heap.IsTupleIter i2 l2 k) (hl1 : s.heap.IsTuple l1 xs1) (hl2 : s.heap.IsTuple l2 xs2) (hx : xs1[k]? = none)
    (hE : ∀ h' e, (∀ c o, c ≠ z → c ≠ TO → c ≠ i1 → c ≠ i2 → s.heap.get? c = some o → h'.get? c = some o) → (∃ o, h'.get? e = some o ∧ o.cls = .type "StopIteration") → E (.ref e) { s with heap := h' }) :
    wpAny (model prog w) A (Builtin.«zip.__next__» ⟨[.ref z], []⟩) Q E s := by
  show wpAny _ _ (field (.ref z) 2 >>= _) _ _ _
  refine wpAny_bind (wpAny_field hz rfl (x := .bool false) rfl ?_)
  show wpAny _ _ (field (.ref z) 3 >>= _) _ _ _
  refine wpAny_bind (wpAny_field hz rfl (x := .ref TI) rfl ?_)
  refine wpAny_bind (wpAny_seqItems hTI rfl ?_)
  show wpAny _ _ (Builtin.SmallTypes.ownedTupleIsFree (.ref z) >>= _) _ _ _
  refine wpAny_bind (owned_any hz hf0 ?_ fun h₁ hz₁ hs₁ => ?_)
  · simp only [if_true]
    refine wpAny_bind (wpAny_rule ?_)
    refine wpAny_bind (wpAny_field hz rfl (x := .ref TO) rfl ?_)
    refine wpAny_bind (wpAny_setField_rec hz (by simp) fun h₀ hz₀ hs₀ => ?_)
    replace hz₀ : IsZipF h₀ z TI TO .ellipsis f1 := hz₀
    refine wpAny_bind ?_
    simp only [List.zipIdx_cons, List.zipIdx_nil, List.forIn_cons, List.forIn_nil]
    refine wpAny_bind (wpAny_bind (wpAny_onRaise ?_))
    show wpAny _ _ (Builtin.SmallTypes.nextOf (.ref i1) >>= _) _ _ _
    refine wpAny_bind (RZ.nextOf_tuple_end hh (h1.extBut hs₀.extBut D.i1z) (hl1.extBut hs₀.extBut D.l1z) hx fun h₂ e hs₂ he => ?_)
    obtain ⟨oe, hoe, hce⟩ := he
    have hz₂ : IsZipF h₂ z TI TO .ellipsis f1 := hs₂ _ _ D.i1z.symm hz₀
    have hez : e ≠ z := fun x => by subst x; rw [hz₂] at hoe; cases hoe; simp at hce
    refine wpAny_setField_rec hz₂ (by simp) fun h₃ _ hs₃ => hE h₃ e (fun c o c1 _ c3 _ x => hs₃.extBut _ _ c1 (hs₂ _ _ c3 (hs₀.extBut _ _ c1 x))) ⟨oe, hs₃.extBut _ _ hez hoe, hce⟩
  · simp only [Bool.false_eq_true, if_false]
    refine wpAny_bind ?_
    rw [← Array.forIn_toList]
    simp only [List.forIn_cons, List.forIn_nil]
    refine wpAny_bind (wpAny_bind (wpAny_holding ?_))
    show wpAny _ _ (Builtin.SmallTypes.nextOf (.ref i1) >>= _) _ _ _
    refine wpAny_bind (RZ.nextOf_tuple_end (s := { s with heap := h₁ }) hh (h1.extBut hs₁.extBut D.i1z) (hl1.extBut hs₁.extBut D.l1z) hx fun h₂ e hs₂ he => ?_)
    exact hE h₂ e (fun c o c1 _ c3 _ x => hs₂ _ _ c3 (hs₁.extBut _ _ c1 x)) he
theorem z2_pyNext_item {z TI TO i1 i2 l1 l2 : Addr} {k : Nat} {xs1 xs2 : Array Value} {f0 : Value} {f1 : Bool} {arr : Array Value} {x1 x2 : Value} {Q : Option Value → Shared → Prop} (D : ZA2 z TI TO i1 i2 l1 l2) (hz : IsZipF s.heap z TI TO f0 f1) (hf0 : OwnF f0) (hTI : IsTupA s.heap TI #[.ref i1, .ref i2]) (hTO : IsTupA s.heap TO arr) (hsz : arr.size = 2) (h1 : s.heap.IsTupleIter i1 l1 k) (h2 : s.heap.IsTupleIter i2 l2 k) (hl1 : s.heap.IsTuple l1 xs1) (hl2 : s.heap.IsTuple l2 xs2) (hx1 : xs1[k]? = some x1) (hx2 : xs2[k]? = some x2)
    (hQ : ∀ h' f0' f1' arr', OwnF f0' → IsZipF h' z TI TO f0' f1' → IsTupA h' TO arr' → arr'.size = 2 → h'.IsTupleIter i1 l1 (k + 1) → h'.IsTupleIter i2 l2 (k + 1) → IsTupA h' s.heap.objs.size #[x1, x2] → h'.objs.size = s.heap.objs.size + 1 → (∀ c o, c ≠ z → c ≠ TO → c ≠ i1 → c ≠ i2 → s.heap.get? c = some o → h'.get? c = some o) → Q (some (.ref s.heap.objs.size)) { s with heap := h' }) : wpAny (model prog w) A (pyNext (.ref z)) Q E s := by
  have hT : s.TypeIs (.ref z) "zip" := ⟨_, hz, rfl⟩
  unfold pyNext
  exact wpAny_bind (wpAny_attempt (wpAny_callSpecial?_slot (name := Str.ofString "__next__") hT F.slot_zip_next
    (wpAny_call_entry F.slot_zip_next hT F.entry_zip_next
      (z2_next_item D hz hf0 hTI hTO hsz h1 h2 hl1 hl2 hx1 hx2 fun h' b0 b1 b2 b3 b4 b5 b6 b7 b8 b9 b10 b11 => wpAny_pure (hQ h' b0 b1 b2 b3 b4 b5 b6 b7 b8 b9 b10 b11)) (F.args_zip_next_1 _))))
theorem z2_pyNext_end {z TI TO i1 i2 l1 l2 : Addr} {k : Nat} {xs1 xs2 : Array Value} {f0 : Value} {f1 : Bool} {arr : Array Value} {Q : Option Value → Shared → Prop} (hh : A.handled = none) (D : ZA2 z TI TO i1 i2 l1 l2) (hz : IsZipF s.heap z TI TO f0 f1) (hf0 : OwnF f0) (hTI : IsTupA s.heap TI #[.ref i1, .ref i2]) (hTO : IsTupA s.heap TO arr) (hsz : arr.size = 2) (h1 : s.heap.IsTupleIter i1 l1 k) (h2 : s.heap.IsTupleIter i2 l2 k) (hl1 : s.heap.IsTuple l1 xs1) (hl2 : s.heap.IsTuple l2 xs2) (hx : xs1[k]? = none)
    (hQ : ∀ h', (∀ c o, c ≠ z → c ≠ TO → c ≠ i1 → c ≠ i2 → s.heap.get? c = some o → h'.get? c = some o) → Q none { s with heap := h' }) : wpAny (model prog w) A (pyNext (.ref z)) Q E s := by
  have hT : s.TypeIs (.ref z) "zip" := ⟨_, hz, rfl⟩
  unfold pyNext
  refine wpAny_bind (wpAny_attempt (wpAny_callSpecial?_slot (name := Str.ofString "__next__") hT F.slot_zip_next
    (wpAny_call_entry F.slot_zip_next hT F.entry_zip_next (z2_next_end hh D hz hf0 hTI hTO hsz h1 h2 hl1 hl2 hx fun h' e hk he => ?_) (F.args_zip_next_1 _))))
  obtain ⟨o, ho, hc⟩ := he
  refine wpAny_bind (wpAny_isInstance (T := "StopIteration") (b := true) ⟨o, ho, hc⟩ isSubtype_stop ?_)
  exact wpAny_pure (hQ _ hk)
end
abbrev zt2H1 (h : Heap) (l1 : Addr) : Heap := h.push { cls := .type "tuple_iterator", data := .fields #[.ref l1, .int 0 0] }
abbrev zt2H2 (h : Heap) (l1 l2 : Addr) : Heap := (zt2H1 h l1).push { cls := .type "tuple_iterator", data := .fields #[.ref l2, .int 0 0] }
abbrev zt2TI (h : Heap) (l1 l2 : Addr) : Heap := (zt2H2 h l1 l2).push { cls := .type "tuple", data := .seq #[.ref h.objs.size, .ref (zt2H1 h l1).objs.size] }
abbrev zt2TO (h : Heap) (l1 l2 : Addr) : Heap := (zt2TI h l1 l2).push { cls := .type "tuple", data := .seq #[.none, .none] }
abbrev zt2Z (h : Heap) (l1 l2 : Addr) : Heap := (zt2TO h l1 l2).push { cls := .type "zip", data := .fields #[.none, .bool false, .bool false, .ref (zt2H2 h l1 l2).objs.size, .ref (zt2TI h l1 l2).objs.size] }
theorem meets_z2_new (l1 l2 : Addr) (xs1 xs2 : Array Value) :
    Meets (Builtin.«zip.__new__» ⟨[.type "zip", .ref l1, .ref l2], []⟩) (fun _ R s => s.heap.IsTuple l1 xs1 ∧ s.heap.IsTuple l2 xs2 ∧
      R (.ok (.ret (.ref (zt2TO s.heap l1 l2).objs.size))) { s with heap := zt2Z s.heap l1 l2 }) :=
  .of_wp fun prog w A R s h => by
    obtain ⟨hp, g, d, tk, os⟩ := s; obtain ⟨hl1, hl2, h⟩ := h
    have hsub := sub_zip
    have hL1 : Heap.IsTuple (Shared.heap ⟨hp, g, d, tk, os⟩) l1 xs1 := hl1
    have hL2 : Heap.IsTuple (Shared.heap ⟨(zt2H1 hp l1), g, d, tk, os⟩) l2 xs2 := Heap.IsTuple.push (hl2) _
    wp_walk using wpAny_pyIter_tuple hL1, wpAny_pyIter_tuple hL2
    exact ⟨_, rfl, h⟩
section
variable {prog : Program} {w : World} {A : Around} {E : Value → Shared → Prop} {s : Shared}
theorem call_z2 {l1 l2 : Addr} {xs1 xs2 : Array Value} {Q : Value → Shared → Prop} (hl1 : s.heap.IsTuple l1 xs1) (hl2 : s.heap.IsTuple l2 xs2)
    (h : ∀ h', IsZipF h' (s.heap.objs.size + 4) (s.heap.objs.size + 2) (s.heap.objs.size + 3) .none false → IsTupA h' (s.heap.objs.size + 2) #[.ref s.heap.objs.size, .ref (s.heap.objs.size + 1)] → IsTupA h' (s.heap.objs.size + 3) #[.none, .none] → h'.IsTupleIter s.heap.objs.size l1 0 → h'.IsTupleIter (s.heap.objs.size + 1) l2 0 → h'.objs.size = (s.heap.objs.size + 5) → (∀ c o, s.heap.get? c = some o → h'.get? c = some o) → Q (.ref (s.heap.objs.size + 4)) { s with heap := h' }) :
    wpAny (model prog w) A (call (.type "zip") [.ref l1, .ref l2]) Q E s := by
  refine callType_new F.called_zip (by decide) (F.typeCall_zip_2 _ _) (F.newCall_zip_2 _ _) (fun obj => F.args_object_init_3 obj _ _) F.entry_zip_new (meets_z2_new l1 l2 xs1 xs2) ⟨hl1, hl2, ?_⟩
  have z1 : (zt2H1 s.heap l1).objs.size = (s.heap.objs.size + 1) := Heap.size_push ..
  have z2 : (zt2H2 s.heap l1 l2).objs.size = (s.heap.objs.size + 2) := by rw [Heap.size_push, z1]
  have z3 : (zt2TI s.heap l1 l2).objs.size = (s.heap.objs.size + 3) := by rw [Heap.size_push, z2]
  have z4 : (zt2TO s.heap l1 l2).objs.size = (s.heap.objs.size + 4) := by rw [Heap.size_push, z3]
  have z5 : (zt2Z s.heap l1 l2).objs.size = (s.heap.objs.size + 5) := by rw [Heap.size_push, z4]
  have g0 : (zt2Z s.heap l1 l2).get? s.heap.objs.size = some _ := Heap.get?_push_of_some _ (Heap.get?_push_of_some _ (Heap.get?_push_of_some _ (Heap.get?_push_of_some _ (Heap.get?_push_size _ rfl))))
  have g1 : (zt2Z s.heap l1 l2).get? (zt2H1 s.heap l1).objs.size = some _ := Heap.get?_push_of_some _ (Heap.get?_push_of_some _ (Heap.get?_push_of_some _ (Heap.get?_push_size _ rfl)))
  have g2 : (zt2Z s.heap l1 l2).get? (zt2H2 s.heap l1 l2).objs.size = some _ := Heap.get?_push_of_some _ (Heap.get?_push_of_some _ (Heap.get?_push_size _ rfl))
  have g3 : (zt2Z s.heap l1 l2).get? (zt2TI s.heap l1 l2).objs.size = some _ := Heap.get?_push_of_some _ (Heap.get?_push_size _ rfl)
  have g4 : (zt2Z s.heap l1 l2).get? (zt2TO s.heap l1 l2).objs.size = some _ := Heap.get?_push_size _ rfl
  show _ ∧ _
  rw [z2, z3, z4] at g4
  rw [z1, z2] at g2
  rw [z3] at g3
  rw [z1] at g1
  rw [z4]
  exact ⟨⟨_, g4, rfl⟩, h _ g4 g2 g3 ⟨_, g0, rfl, rfl⟩ ⟨_, g1, rfl, rfl⟩ z5 fun c o x => Heap.get?_push_of_some _ (Heap.get?_push_of_some _ (Heap.get?_push_of_some _ (Heap.get?_push_of_some _ (Heap.get?_push_of_some _ (x)))))⟩
end
/-- the 2 tuples as they stand at each turn, the items in a new tuple -/
def ItS2 (K : PySem.W.Frag) (a1 a2 : Addr) : It :=
  ⟨fun i H => ∃ (xs1 xs2 : List V) (x1 x2 : V), SqT K H a1 xs1 ∧ SqT K H a2 xs2 ∧ xs1[i]? = some x1 ∧ xs2[i]? = some x2,
    fun i H v H' => ∃ T x1 x2, v = .ref T ∧ H T = none ∧ H' = upd H T (.tup [x1, x2]) ∧ (∀ ys, SqT K H a1 ys → ys[i]? = some x1) ∧ (∀ ys, SqT K H a2 ys → ys[i]? = some x2),
    fun i H => ∃ (xs1 xs2 : List V), SqT K H a1 xs1 ∧ SqT K H a2 xs2 ∧ xs1.length ≤ i⟩
theorem turn_S2 {P : Program} {w : World} {K : PySem.W.Frag} {nm : Str} {tpos : Pos} {z TI TO i1 i2 a1 a2 : Addr} (D : ZA2 z TI TO i1 i2 a1 a2) : Turn P w K (.Name nm tpos) (ItS2 K a1 a2) [z, TI, TO, i1, i2] z (fun i h => ∃ f0 f1 arr, OwnF f0 ∧ IsZipF h z TI TO f0 f1 ∧ IsTupA h TI #[.ref i1, .ref i2] ∧ IsTupA h TO arr ∧ arr.size = 2 ∧ h.IsTupleIter i1 a1 i ∧ h.IsTupleIter i2 a2 i) where
  mem := by simp
  obj := fun i h st c hc => by
    obtain ⟨f0, f1, arr, hf0, hz, hTI, hTO, hsz, ⟨o1, e1, _, d1⟩, ⟨o2, e2, _, d2⟩⟩ := st
    have e' : c = z ∨ c = TI ∨ c = TO ∨ c = i1 ∨ c = i2 := by simpa using hc
    rcases e' with q | q | q | q | q
    · rw [q]; exact ⟨_, hz, fun v q => nomatch q⟩
    · rw [q]; exact ⟨_, hTI, fun v q => nomatch q⟩
    · rw [q]; exact ⟨_, hTO, fun v q => nomatch q⟩
    · rw [q]; exact ⟨o1, e1, fun v q => by rw [d1] at q; cases q⟩
    · rw [q]; exact ⟨o2, e2, fun v q => by rw [d2] at q; cases q⟩
  keep := fun i h h' st k => by
    obtain ⟨f0, f1, arr, hf0, hz, hTI, hTO, hsz, h1, h2⟩ := st
    exact ⟨f0, f1, arr, hf0, k z (by simp) _ hz, k TI (by simp) _ hTI, k TO (by simp) _ hTO, hsz, h1.at fun o q => k i1 (by simp) o q, h2.at fun o q => k i2 (by simp) o q⟩
  item := by
    intro X hP hw hK hc i pins s σ H E I hf st hg
    subst hP hw hK
    obtain ⟨f0, f1, arr, hf0, hz, hTI, hTO, hsz, h1, h2⟩ := st
    obtain ⟨xs1, xs2, x1, x2, hq1, hq2, hx1, hx2⟩ := hg
    obtain ⟨its1, rv1, p1, _⟩ := I.tuple hq1
    obtain ⟨w1, hw1, rw1⟩ := rv1.get hx1
    obtain ⟨its2, rv2, p2, _⟩ := I.tuple hq2
    obtain ⟨w2, hw2, rw2⟩ := rv2.get hx2
    have hzl : z < s.heap.objs.size := Heap.lt_size hz
    refine z2_pyNext_item D hz hf0 hTI hTO hsz h1 h2 p1 p2 (by simpa using hw1) (by simpa using hw2) fun h' f0' f1' arr' hf0' hz' TO' hsz' h1' h2' hT hsz2 hk => ?_
    refine ⟨_, rfl, wpAny_pure ?_⟩
    have new : ObjOk X.prog X.w (upd H s.heap.objs.size (.tup [x1, x2])) h' s.heap.objs.size (.tup [x1, x2]) := ⟨by show 2 ≤ sizeLine; decide, [w1, w2], .cons rw1 (.cons rw2 (.nil)), ⟨_, hT, rfl, _, rfl⟩⟩
    have I1 : Inv X pins σ (upd H s.heap.objs.size (.tup [x1, x2])) { s with heap := h' } :=
      I.turnedNew (t' := s.toks) (ch := [z, TI, TO, i1, i2]) (fun c o hb q => hk c o (fun q' => hb (by simp [q'])) (fun q' => hb (by simp [q'])) (fun q' => hb (by simp [q'])) (fun q' => hb (by simp [q'])) q) hf (Nat.le_refl _) new
    refine ⟨.ref s.heap.objs.size, _, I1, rfl, ⟨_, x1, x2, rfl, I.hok.fresh (Nat.le_refl _), rfl, fun l hl => by rw [I.tuple_inj hl hq1]; exact hx1, fun l hl => by rw [I.tuple_inj hl hq2]; exact hx2⟩, ⟨f0', f1', arr', hf0', hz', ?_, TO', hsz', h1', h2'⟩, fun c hcm => ?_⟩
    · exact hk _ _ D.TIz D.TITO D.TIi1 D.TIi2 hTI
    · have hlt : c < s.heap.objs.size := by
        have e' : c = z ∨ c = TI ∨ c = TO ∨ c = i1 ∨ c = i2 := by simpa using hcm
        rcases e' with q | q | q | q | q
        · rw [q]; exact hzl
        · rw [q]; exact Heap.lt_size hTI
        · rw [q]; exact Heap.lt_size hTO
        · rw [q]; obtain ⟨_, e1, _⟩ := h1; exact Heap.lt_size e1
        · rw [q]; obtain ⟨_, e1, _⟩ := h2; exact Heap.lt_size e1
      rw [upd_ne (Nat.ne_of_lt hlt)]
      exact (hf c hcm).1
  done := by
    intro X hP hw hK hc i pins s σ H E I hf st hg
    subst hP hw hK
    obtain ⟨f0, f1, arr, hf0, hz, hTI, hTO, hsz, h1, h2⟩ := st
    obtain ⟨xs1, xs2, hq1, hq2, hend⟩ := hg
    obtain ⟨its1, rv1, p1, _⟩ := I.tuple hq1
    obtain ⟨its2, rv2, p2, _⟩ := I.tuple hq2
    have l1 := rv1.length
    exact z2_pyNext_end (I.ok.hd hc) D hz hf0 hTI hTO hsz h1 h2 p1 p2 (by simp; omega) fun h' hk => ⟨rfl, I.turnedL (t' := s.toks) (ch := [z, TI, TO, i1, i2]) (fun c o hb q => hk c o (fun q' => hb (by simp [q'])) (fun q' => hb (by simp [q'])) (fun q' => hb (by simp [q'])) (fun q' => hb (by simp [q'])) q) hf⟩
  self := fun A i s Q E st h => by
    obtain ⟨f0, f1, arr, hf0, hz, _⟩ := st
    exact pyIter_zipF hz h
end Hs
namespace Hs
open PySem PySem.Spec PyProof.Rows L2

/-- zip(*rows), a call by a star alone -/
theorem callWith_starT {M : Model} {A : Around} {E : Value → Shared → Prop} {s : Shared} {env : Env} {pos p : Pos} {T : String} {e : Expr} {Q : Value → Shared → Prop} (h : wpAny M A (eval e env) (fun v s₁ => PySem.W.StarOf M A E v (fun vs s₂ => wpAny M A (call (.type T) vs) Q E s₂) s₁) E s)
    (he : starEach [.Starred e p] env = [(true, eval e env)] := by rfl) : wpAny M A (callWith pos (.type T) [] (backTo pos (starEach [.Starred e p] env)) []) Q E s := by
  rw [he]
  refine PySem.W.ks_call (P := fun _ => True) rfl (fun h _ => ⟨.machine, .inr (.inl rfl), ?_⟩) (PySem.W.ks_lone (wpAny_mono h (fun v s₁ h₁ => ?_) fun _ _ x => x))
  · exact PySem.W.Looks.now
  · unfold PySem.W.StarOf at h₁ ⊢
    refine wpAny_mono h₁ (fun b s₂ h₂ => ⟨h₂.1, wpAny_mono h₂.2 (fun vs s₃ h₃ => ⟨trivial, h₃⟩) fun _ _ x => x⟩) fun _ _ x => x
theorem neA {a b : Nat} (h : a ≠ b) : (a : Addr) ≠ (b : Addr) := h

theorem vals_refs2 {a1 a2 : Addr} {us : List Value} (r : Vals [.ref a1, .ref a2] us) : us = [.ref a1, .ref a2] := by
  cases r with
  | cons q r =>
    cases q
    cases r with
    | cons q r =>
      cases q
      cases r
      rfl
theorem apart2 (I a1 a2 : Nat) (h1 : a1 < I) (h2 : a2 < I) : ZA2 (I + 4) (I + 2) (I + 3) I (I + 1) a1 a2 := by
  constructor <;> (refine neA ?_; omega)

def iZipS2 (K : PySem.W.Frag) (te : TE) : TI := fun σ H R => te σ H fun v H1 => ∃ (l a1 a2 : Addr) (xs1 xs2 : List V), v = .ref l ∧ SqL K H1 l [.ref a1, .ref a2] ∧ SqT K H1 a1 xs1 ∧ SqT K H1 a2 xs2 ∧ R (ItS2 K a1 a2) H1
theorem pi_zipS2 {X : Cx} {e : Expr} {te : TE} {p sp pos tpos : Pos} {nm : Str} (hg : Gl X "zip") (hm : X.mg "zip" = none) (he : PE X e te) (hs : starEach [.Starred e sp] X.env = [(true, eval e X.env)] := by rfl) : PI X (.Name nm tpos) (.Call (.Name "zip" p) [.Starred e sp] [] pos) (iZipS2 X.K te) := by
  refine ⟨fun pins s σ H R I h => ?_⟩
  refine Call_ (ld_blt I hg hm PyProof.Rows.boot_zip (callWith_starT (thn (he.run pins s σ H _ I h) fun v s0 ⟨y, H1, I0, ry, l, a1, a2, xs1, xs2, ey, hl, hq1, hq2, q⟩ => ?_) hs))
  subst ey
  obtain rfl : v = Value.ref l := ry
  refine StX.star_lst I0 hl fun us s1 I1 rv => ?_
  obtain rfl : us = [.ref a1, .ref a2] := vals_refs2 rv
  obtain ⟨its1, rv1, p1, _⟩ := I1.tuple hq1
  obtain ⟨o1, ho1, _⟩ := id p1
  obtain ⟨its2, rv2, p2, _⟩ := I1.tuple hq2
  obtain ⟨o2, ho2, _⟩ := id p2
  refine call_z2 (show s1.heap.IsTuple a1 its1.toArray from p1) (show s1.heap.IsTuple a2 its2.toArray from p2) fun h' hz hTI hTO h1 h2 hsz hk => pyIter_zipF hz ?_
  have I2 : Inv X pins σ H1 { s1 with heap := h' } := I1.kept (t' := s1.toks) hk
  refine ⟨s1.heap.objs.size + 4, [s1.heap.objs.size + 4, s1.heap.objs.size + 2, s1.heap.objs.size + 3, s1.heap.objs.size, s1.heap.objs.size + 1], _, _, H1, rfl, I2, turn_S2 (apart2 s1.heap.objs.size a1 a2 (Heap.lt_size ho1) (Heap.lt_size ho2)), ⟨_, _, _, .inl rfl, hz, hTI, hTO, rfl, h1, h2⟩, fun c hcm => ?_, q⟩
  have hle : s1.heap.objs.size ≤ c := by
    simp only [List.mem_cons, List.not_mem_nil, or_false] at hcm
    rcases hcm with rfl | rfl | rfl | rfl | rfl <;> first | exact Nat.le_refl _ | exact Nat.le_add_right _ _
  exact I1.fpOk hle (I1.hok.fresh hle)

end Hs
namespace Hs
open PySem PySem.Spec PyProof.Rows L2
/-! ### for a, b in zip(list, tuple) -/
section
variable {prog : Program} {w : World} {A : Around} {E : Value → Shared → Prop} {s : Shared}
theorem zm_next_item {z TI TO i1 i2 l1 l2 : Addr} {k : Nat} {xs1 xs2 : Array Value} {f0 : Value} {f1 : Bool} {arr : Array Value} {x1 x2 : Value} {Q : Value → Shared → Prop} (D : ZA2 z TI TO i1 i2 l1 l2) (hz : IsZipF s.heap z TI TO f0 f1) (hf0 : OwnF f0) (hTI : IsTupA s.heap TI #[.ref i1, .ref i2]) (hTO : IsTupA s.heap TO arr) (hsz : arr.size = 2) (h1 : s.heap.IsListIter i1 l1 k) (h2 : s.heap.IsTupleIter i2 l2 k) (hl1 : s.heap.IsList l1 xs1) (hl2 : s.heap.IsTuple l2 xs2) (hx1 : xs1[k]? = some x1) (hx2 : xs2[k]? = some x2)
    (hQ : ∀ h' f0' f1' arr', OwnF f0' → IsZipF h' z TI TO f0' f1' → IsTupA h' TO arr' → arr'.size = 2 → h'.IsListIter i1 l1 (k + 1) → h'.IsTupleIter i2 l2 (k + 1) → IsTupA h' s.heap.objs.size #[x1, x2] → h'.objs.size = s.heap.objs.size + 1 → (∀ c o, c ≠ z → c ≠ TO → c ≠ i1 → c ≠ i2 → s.heap.get? c = some o → h'.get? c = some o) → Q (.ref s.heap.objs.size) { s with heap := h' }) :
    wpAny (model prog w) A (Builtin.«zip.__next__» ⟨[.ref z], []⟩) (fun fin s' => ∃ v, fin = .done (.ret v) ∧ Q v s') E s := by
  show wpAny _ _ (field (.ref z) 2 >>= _) _ _ _
  refine wpAny_bind (wpAny_field hz rfl (x := .bool false) rfl ?_)
  show wpAny _ _ (field (.ref z) 3 >>= _) _ _ _
  refine wpAny_bind (wpAny_field hz rfl (x := .ref TI) rfl ?_)
  refine wpAny_bind (wpAny_seqItems hTI rfl ?_)
  show wpAny _ _ (Builtin.SmallTypes.ownedTupleIsFree (.ref z) >>= _) _ _ _
  refine wpAny_bind (owned_any hz hf0 ?_ fun h₁ hz₁ hs₁ => ?_)
  · simp only [if_true]
    refine wpAny_bind (wpAny_rule ?_)
    refine wpAny_bind (wpAny_field hz rfl (x := .ref TO) rfl ?_)
    refine wpAny_bind (wpAny_setField_rec hz (by simp) fun h₀ hz₀ hs₀ => ?_)
    replace hz₀ : IsZipF h₀ z TI TO .ellipsis f1 := hz₀
    have K0 : ∀ c o, c ≠ z → s.heap.get? c = some o → h₀.get? c = some o := fun c o c1 e => hs₀.extBut _ _ c1 e
    have N0 : h₀.objs.size = s.heap.objs.size := hs₀.1
    have T0 : IsTupA h₀ TO arr := K0 _ _ D.TOz hTO
    have J1_0 : h₀.IsListIter i1 l1 k := h1.at fun o e => K0 _ o D.i1z e
    have L1_0 : h₀.IsList l1 xs1 := hl1.at fun o e => K0 _ o D.l1z e
    have J2_0 : h₀.IsTupleIter i2 l2 k := h2.at fun o e => K0 _ o D.i2z e
    have L2_0 : h₀.IsTuple l2 xs2 := hl2.at' fun o e => K0 _ o D.l2z e
    refine wpAny_bind ?_
    simp only [List.zipIdx_cons, List.zipIdx_nil, List.forIn_cons, List.forIn_nil]
    refine wpAny_bind (wpAny_bind (wpAny_onRaise ?_))
    show wpAny _ _ (Builtin.SmallTypes.nextOf (.ref i1) >>= _) _ _ _
    refine wpAny_bind (wpAny_nextOf_list_item J1_0 L1_0 hx1 fun g1 m1 gs1 => wpAny_pure ?_)
    have V1 : IsTupA g1 TO (arr) := gs1.extBut _ _ D.TOi1 T0
    refine wpAny_bind (wpAny_seqItems V1 rfl ?_)
    refine wpAny_bind (upSeq V1 (by simp [hsz]) fun u1 T1 us1 => ?_)
    refine wpAny_bind (wpAny_letGo (wpAny_pure ?_))
    have J1_1 : u1.IsListIter i1 l1 (k + 1) := m1.extBut us1.extBut D.TOi1.symm
    have L1_1 : u1.IsList l1 xs1 := (L1_0.extBut gs1.extBut D.l1i1).extBut us1.extBut D.l1TO
    have J2_1 : u1.IsTupleIter i2 l2 k := (J2_0.extBut gs1.extBut D.i1i2.symm).extBut us1.extBut D.TOi2.symm
    have L2_1 : u1.IsTuple l2 xs2 := (L2_0.extBut gs1.extBut D.l2i1).extBut us1.extBut D.l2TO
    have K1 : ∀ c o, c ≠ z → c ≠ TO → c ≠ i1 → s.heap.get? c = some o → u1.get? c = some o := fun c o c1 c2 q1 e => us1.extBut _ _ c2 (gs1.extBut _ _ q1 (K0 c o c1  e))
    have Z1 : IsZipF u1 z TI TO .ellipsis f1 := us1.extBut _ _ D.TOz.symm (gs1.extBut _ _ D.i1z.symm hz₀)
    have N1 : u1.objs.size = s.heap.objs.size := by rw [us1.1, gs1.1, N0]
    refine wpAny_bind (wpAny_bind (wpAny_onRaise ?_))
    show wpAny _ _ (Builtin.SmallTypes.nextOf (.ref i2) >>= _) _ _ _
    refine wpAny_bind (RZ.nextOf_tuple_item J2_1 L2_1 hx2 fun g2 m2 gs2 => wpAny_pure ?_)
    have V2 : IsTupA g2 TO ((arr).setIfInBounds 0 x1) := gs2.extBut _ _ D.TOi2 T1
    refine wpAny_bind (wpAny_seqItems V2 rfl ?_)
    refine wpAny_bind (upSeq V2 (by simp [hsz]) fun u2 T2 us2 => ?_)
    refine wpAny_bind (wpAny_letGo (wpAny_pure ?_))
    have J1_2 : u2.IsListIter i1 l1 (k + 1) := (J1_1.extBut gs2.extBut D.i1i2).extBut us2.extBut D.TOi1.symm
    have L1_2 : u2.IsList l1 xs1 := (L1_1.extBut gs2.extBut D.l1i2).extBut us2.extBut D.l1TO
    have J2_2 : u2.IsTupleIter i2 l2 (k + 1) := m2.extBut us2.extBut D.TOi2.symm
    have L2_2 : u2.IsTuple l2 xs2 := (L2_1.extBut gs2.extBut D.l2i2).extBut us2.extBut D.l2TO
    have K2 : ∀ c o, c ≠ z → c ≠ TO → c ≠ i1 → c ≠ i2 → s.heap.get? c = some o → u2.get? c = some o := fun c o c1 c2 q1 q2 e => us2.extBut _ _ c2 (gs2.extBut _ _ q2 (K1 c o c1 c2 q1 e))
    have Z2 : IsZipF u2 z TI TO .ellipsis f1 := us2.extBut _ _ D.TOz.symm (gs2.extBut _ _ D.i2z.symm Z1)
    have N2 : u2.objs.size = s.heap.objs.size := by rw [us2.1, gs2.1, N1]
    refine wpAny_pure ?_
    refine wpAny_bind (wpAny_seqItems T2 rfl ?_)
    have ea : (((arr).setIfInBounds 0 x1).setIfInBounds 1 x2) = #[x1, x2] := set2 hsz
    rw [ea] at T2 ⊢
    refine wpAny_bind (wpAny_newTuple ?_)
    show wpAny _ _ (Builtin.SmallTypes.ownedTupleHandOut (.ref z) (.ref u2.objs.size) >>= _) _ _ _
    refine wpAny_bind ?_
    unfold Builtin.SmallTypes.ownedTupleHandOut
    have zlt : z < u2.objs.size := Heap.lt_size Z2
    have hz₆ : IsZipF (u2.push { cls := .type "tuple", data := .seq #[x1, x2] }) z TI TO .ellipsis f1 := Heap.get?_push_of_some _ Z2
    refine wpAny_bind (wpAny_setField_rec hz₆ (by simp) fun h₇ hz₇ hs₇ => ?_)
    replace hz₇ : IsZipF h₇ z TI TO (rawInt u2.objs.size) f1 := hz₇
    refine wpAny_setField_rec hz₇ (by simp) fun h₈ hz₈ hs₈ => ?_
    replace hz₈ : IsZipF h₈ z TI TO (rawInt u2.objs.size) false := hz₈
    have up : ∀ c o, c ≠ z → u2.get? c = some o → h₈.get? c = some o := fun c o c1 e => hs₈.extBut _ _ c1 (hs₇.extBut _ _ c1 (Heap.get?_push_of_some _ e))
    have hT₈ : IsTupA h₈ u2.objs.size #[x1, x2] := hs₈.extBut _ _ (Nat.ne_of_gt zlt) (hs₇.extBut _ _ (Nat.ne_of_gt zlt) (Heap.get?_push_size _ rfl))
    have hz8 : h₈.objs.size = u2.objs.size + 1 := by rw [hs₈.1, hs₇.1, Heap.size_push]
    refine wpAny_pure ⟨_, rfl, ?_⟩
    show Q (.ref u2.objs.size) _
    rw [N2] at hz₈ hT₈ hz8 ⊢
    exact hQ h₈ _ _ _ (.inr ⟨_, rfl⟩) hz₈ (up _ _ D.TOz T2) rfl (J1_2.at fun o e => up _ o D.i1z e) (J2_2.at fun o e => up _ o D.i2z e) hT₈ hz8 fun c o c1 c2 q1 q2 e => up c o c1 (K2 c o c1 c2 q1 q2 e)
  · simp only [Bool.false_eq_true, if_false]
    have K0 : ∀ c o, c ≠ z → s.heap.get? c = some o → h₁.get? c = some o := fun c o c1 e => hs₁.extBut _ _ c1 e
    have J1_0 : h₁.IsListIter i1 l1 k := h1.at fun o e => K0 _ o D.i1z e
    have L1_0 : h₁.IsList l1 xs1 := hl1.at fun o e => K0 _ o D.l1z e
    have J2_0 : h₁.IsTupleIter i2 l2 k := h2.at fun o e => K0 _ o D.i2z e
    have L2_0 : h₁.IsTuple l2 xs2 := hl2.at' fun o e => K0 _ o D.l2z e
    refine wpAny_bind ?_
    rw [← Array.forIn_toList]
    simp only [List.forIn_cons, List.forIn_nil]
    refine wpAny_bind (wpAny_bind (wpAny_holding ?_))
    show wpAny _ _ (Builtin.SmallTypes.nextOf (.ref i1) >>= _) _ _ _
    refine wpAny_bind (wpAny_nextOf_list_item (s := { s with heap := h₁ }) J1_0 L1_0 hx1 fun g1 m1 gs1 => wpAny_pure ?_)
    refine wpAny_pure ?_
    have J1_1 : g1.IsListIter i1 l1 (k + 1) := m1
    have L1_1 : g1.IsList l1 xs1 := L1_0.extBut gs1.extBut D.l1i1
    have J2_1 : g1.IsTupleIter i2 l2 k := J2_0.extBut gs1.extBut D.i1i2.symm
    have L2_1 : g1.IsTuple l2 xs2 := L2_0.extBut gs1.extBut D.l2i1
    refine wpAny_bind (wpAny_bind (wpAny_holding ?_))
    show wpAny _ _ (Builtin.SmallTypes.nextOf (.ref i2) >>= _) _ _ _
    refine wpAny_bind (RZ.nextOf_tuple_item (s := { s with heap := g1 }) J2_1 L2_1 hx2 fun g2 m2 gs2 => wpAny_pure ?_)
    refine wpAny_pure (wpAny_pure ?_)
    have J1_2 : g2.IsListIter i1 l1 (k + 1) := J1_1.extBut gs2.extBut D.i1i2
    have L1_2 : g2.IsList l1 xs1 := L1_1.extBut gs2.extBut D.l1i2
    have J2_2 : g2.IsTupleIter i2 l2 (k + 1) := m2
    have L2_2 : g2.IsTuple l2 xs2 := L2_1.extBut gs2.extBut D.l2i2
    show wpAny _ _ (newTuple [x1, x2] >>= _) _ _ _
    refine wpAny_bind (wpAny_newTuple ?_)
    have hsz' : g2.objs.size = s.heap.objs.size := by rw [gs2.1, gs1.1, hs₁.1]
    have hz3 : IsZipF g2 z TI TO f0 true := (gs2.extBut _ _ D.i2z.symm (gs1.extBut _ _ D.i1z.symm hz₁))
    have hk : ∀ c o, c ≠ z → c ≠ i1 → c ≠ i2 → s.heap.get? c = some o → g2.get? c = some o := fun c o c1 q1 q2 e => (gs2.extBut _ _ q2 (gs1.extBut _ _ q1 (K0 c o c1 e)))
    refine wpAny_pure ⟨_, rfl, ?_⟩
    show Q (.ref g2.objs.size) _
    have hp : IsTupA (g2.push { cls := .type "tuple", data := .seq #[x1, x2] }) g2.objs.size #[x1, x2] := Heap.get?_push_size _ rfl
    have hz4 : (g2.push { cls := .type "tuple", data := .seq #[x1, x2] }).objs.size = g2.objs.size + 1 := Heap.size_push ..
    rw [hsz'] at hp hz4 ⊢
    exact hQ _ _ _ _ hf0 (Heap.get?_push_of_some _ hz3) (Heap.get?_push_of_some _ (hk _ _ D.TOz D.TOi1 D.TOi2 hTO)) hsz (J1_2.at fun o e => Heap.get?_push_of_some _ e) (J2_2.at fun o e => Heap.get?_push_of_some _ e) hp hz4 fun c o c1 c2 q1 q2 e => Heap.get?_push_of_some _ (hk c o c1 q1 q2 e)
theorem zm_next_end {z TI TO i1 i2 l1 l2 : Addr} {k : Nat} {xs1 xs2 : Array Value} {f0 : Value} {f1 : Bool} {arr : Array Value} {Q : Fin → Shared → Prop} (hh : A.handled = none) (D : ZA2 z TI TO i1 i2 l1 l2) (hz : IsZipF s.heap z TI TO f0 f1) (hf0 : OwnF f0) (hTI : IsTupA s.heap TI #[.ref i1, .ref i2]) (hTO : IsTupA s.heap TO arr) (hsz : arr.size = 2) (h1 : s.heap.IsListIter i1 l1 k) (h2 : s.heap.IsTupleIter i2 l2 k) (hl1 : s.heap.IsList l1 xs1) (hl2 : s.heap.IsTuple l2 xs2) (hx : xs1[k]? = none)
    (hE : ∀ h' e, (∀ c o, c ≠ z → c ≠ TO → c ≠ i1 → c ≠ i2 → s.heap.get? c = some o → h'.get? c = some o) → (∃ o, h'.get? e = some o ∧ o.cls = .type "StopIteration") → E (.ref e) { s with heap := h' }) :
    wpAny (model prog w) A (Builtin.«zip.__next__» ⟨[.ref z], []⟩) Q E s := by
  show wpAny _ _ (field (.ref z) 2 >>= _) _ _ _
  refine wpAny_bind (wpAny_field hz rfl (x := .bool false) rfl ?_)
  show wpAny _ _ (field (.ref z) 3 >>= _) _ _ _
  refine wpAny_bind (wpAny_field hz rfl (x := .ref TI) rfl ?_)
  refine wpAny_bind (wpAny_seqItems hTI rfl ?_)
  show wpAny _ _ (Builtin.SmallTypes.ownedTupleIsFree (.ref z) >>= _) _ _ _
  refine wpAny_bind (owned_any hz hf0 ?_ fun h₁ hz₁ hs₁ => ?_)
  · simp only [if_true]
    refine wpAny_bind (wpAny_rule ?_)
    refine wpAny_bind (wpAny_field hz rfl (x := .ref TO) rfl ?_)
    refine wpAny_bind (wpAny_setField_rec hz (by simp) fun h₀ hz₀ hs₀ => ?_)
    replace hz₀ : IsZipF h₀ z TI TO .ellipsis f1 := hz₀
    refine wpAny_bind ?_
    simp only [List.zipIdx_cons, List.zipIdx_nil, List.forIn_cons, List.forIn_nil]
    refine wpAny_bind (wpAny_bind (wpAny_onRaise ?_))
    show wpAny _ _ (Builtin.SmallTypes.nextOf (.ref i1) >>= _) _ _ _
    refine wpAny_bind (wpAny_nextOf_list_end hh (h1.extBut hs₀.extBut D.i1z) (hl1.extBut hs₀.extBut D.l1z) hx fun h₂ e hs₂ he => ?_)
    obtain ⟨oe, hoe, hce⟩ := he
    have hz₂ : IsZipF h₂ z TI TO .ellipsis f1 := hs₂ _ _ D.i1z.symm hz₀
    have hez : e ≠ z := fun x => by subst x; rw [hz₂] at hoe; cases hoe; simp at hce
    refine wpAny_setField_rec hz₂ (by simp) fun h₃ _ hs₃ => hE h₃ e (fun c o c1 _ c3 _ x => hs₃.extBut _ _ c1 (hs₂ _ _ c3 (hs₀.extBut _ _ c1 x))) ⟨oe, hs₃.extBut _ _ hez hoe, hce⟩
  · simp only [Bool.false_eq_true, if_false]
    refine wpAny_bind ?_
    rw [← Array.forIn_toList]
    simp only [List.forIn_cons, List.forIn_nil]
    refine wpAny_bind (wpAny_bind (wpAny_holding ?_))
    show wpAny _ _ (Builtin.SmallTypes.nextOf (.ref i1) >>= _) _ _ _
    refine wpAny_bind (wpAny_nextOf_list_end (s := { s with heap := h₁ }) hh (h1.extBut hs₁.extBut D.i1z) (hl1.extBut hs₁.extBut D.l1z) hx fun h₂ e hs₂ he => ?_)
    exact hE h₂ e (fun c o c1 _ c3 _ x => hs₂ _ _ c3 (hs₁.extBut _ _ c1 x)) he
theorem zm_pyNext_item {z TI TO i1 i2 l1 l2 : Addr} {k : Nat} {xs1 xs2 : Array Value} {f0 : Value} {f1 : Bool} {arr : Array Value} {x1 x2 : Value} {Q : Option Value → Shared → Prop} (D : ZA2 z TI TO i1 i2 l1 l2) (hz : IsZipF s.heap z TI TO f0 f1) (hf0 : OwnF f0) (hTI : IsTupA s.heap TI #[.ref i1, .ref i2]) (hTO : IsTupA s.heap TO arr) (hsz : arr.size = 2) (h1 : s.heap.IsListIter i1 l1 k) (h2 : s.heap.IsTupleIter i2 l2 k) (hl1 : s.heap.IsList l1 xs1) (hl2 : s.heap.IsTuple l2 xs2) (hx1 : xs1[k]? = some x1) (hx2 : xs2[k]? = some x2)
    (hQ : ∀ h' f0' f1' arr', OwnF f0' → IsZipF h' z TI TO f0' f1' → IsTupA h' TO arr' → arr'.size = 2 → h'.IsListIter i1 l1 (k + 1) → h'.IsTupleIter i2 l2 (k + 1) → IsTupA h' s.heap.objs.size #[x1, x2] → h'.objs.size = s.heap.objs.size + 1 → (∀ c o, c ≠ z → c ≠ TO → c ≠ i1 → c ≠ i2 → s.heap.get? c = some o → h'.get? c = some o) → Q (some (.ref s.heap.objs.size)) { s with heap := h' }) : wpAny (model prog w) A (pyNext (.ref z)) Q E s := by
  have hT : s.TypeIs (.ref z) "zip" := ⟨_, hz, rfl⟩
  unfold pyNext
  exact wpAny_bind (wpAny_attempt (wpAny_callSpecial?_slot (name := Str.ofString "__next__") hT F.slot_zip_next
    (wpAny_call_entry F.slot_zip_next hT F.entry_zip_next
      (zm_next_item D hz hf0 hTI hTO hsz h1 h2 hl1 hl2 hx1 hx2 fun h' b0 b1 b2 b3 b4 b5 b6 b7 b8 b9 b10 b11 => wpAny_pure (hQ h' b0 b1 b2 b3 b4 b5 b6 b7 b8 b9 b10 b11)) (F.args_zip_next_1 _))))
theorem zm_pyNext_end {z TI TO i1 i2 l1 l2 : Addr} {k : Nat} {xs1 xs2 : Array Value} {f0 : Value} {f1 : Bool} {arr : Array Value} {Q : Option Value → Shared → Prop} (hh : A.handled = none) (D : ZA2 z TI TO i1 i2 l1 l2) (hz : IsZipF s.heap z TI TO f0 f1) (hf0 : OwnF f0) (hTI : IsTupA s.heap TI #[.ref i1, .ref i2]) (hTO : IsTupA s.heap TO arr) (hsz : arr.size = 2) (h1 : s.heap.IsListIter i1 l1 k) (h2 : s.heap.IsTupleIter i2 l2 k) (hl1 : s.heap.IsList l1 xs1) (hl2 : s.heap.IsTuple l2 xs2) (hx : xs1[k]? = none)
    (hQ : ∀ h', (∀ c o, c ≠ z → c ≠ TO → c ≠ i1 → c ≠ i2 → s.heap.get? c = some o → h'.get? c = some o) → Q none { s with heap := h' }) : wpAny (model prog w) A (pyNext (.ref z)) Q E s := by
  have hT : s.TypeIs (.ref z) "zip" := ⟨_, hz, rfl⟩
  unfold pyNext
  refine wpAny_bind (wpAny_attempt (wpAny_callSpecial?_slot (name := Str.ofString "__next__") hT F.slot_zip_next
    (wpAny_call_entry F.slot_zip_next hT F.entry_zip_next (zm_next_end hh D hz hf0 hTI hTO hsz h1 h2 hl1 hl2 hx fun h' e hk he => ?_) (F.args_zip_next_1 _))))
  obtain ⟨o, ho, hc⟩ := he
  refine wpAny_bind (wpAny_isInstance (T := "StopIteration") (b := true) ⟨o, ho, hc⟩ isSubtype_stop ?_)
  exact wpAny_pure (hQ _ hk)
end
abbrev ztmH1 (h : Heap) (l1 : Addr) : Heap := h.push { cls := .type "list_iterator", data := .fields #[.ref l1, .int 0 0] }
abbrev ztmH2 (h : Heap) (l1 l2 : Addr) : Heap := (ztmH1 h l1).push { cls := .type "tuple_iterator", data := .fields #[.ref l2, .int 0 0] }
abbrev ztmTI (h : Heap) (l1 l2 : Addr) : Heap := (ztmH2 h l1 l2).push { cls := .type "tuple", data := .seq #[.ref h.objs.size, .ref (ztmH1 h l1).objs.size] }
abbrev ztmTO (h : Heap) (l1 l2 : Addr) : Heap := (ztmTI h l1 l2).push { cls := .type "tuple", data := .seq #[.none, .none] }
abbrev ztmZ (h : Heap) (l1 l2 : Addr) : Heap := (ztmTO h l1 l2).push { cls := .type "zip", data := .fields #[.none, .bool false, .bool false, .ref (ztmH2 h l1 l2).objs.size, .ref (ztmTI h l1 l2).objs.size] }
theorem meets_zm_new (l1 l2 : Addr) (xs1 xs2 : Array Value) :
    Meets (Builtin.«zip.__new__» ⟨[.type "zip", .ref l1, .ref l2], []⟩) (fun _ R s => s.heap.IsList l1 xs1 ∧ s.heap.IsTuple l2 xs2 ∧
      R (.ok (.ret (.ref (ztmTO s.heap l1 l2).objs.size))) { s with heap := ztmZ s.heap l1 l2 }) :=
  .of_wp fun prog w A R s h => by
    obtain ⟨hp, g, d, tk, os⟩ := s; obtain ⟨hl1, hl2, h⟩ := h
    have hsub := sub_zip
    have hL1 : Heap.IsList (Shared.heap ⟨hp, g, d, tk, os⟩) l1 xs1 := hl1
    have hL2 : Heap.IsTuple (Shared.heap ⟨(ztmH1 hp l1), g, d, tk, os⟩) l2 xs2 := Heap.IsTuple.push (hl2) _
    wp_walk using wpAny_pyIter_list hL1, wpAny_pyIter_tuple hL2
    exact ⟨_, rfl, h⟩
section
variable {prog : Program} {w : World} {A : Around} {E : Value → Shared → Prop} {s : Shared}
theorem call_zm {l1 l2 : Addr} {xs1 xs2 : Array Value} {Q : Value → Shared → Prop} (hl1 : s.heap.IsList l1 xs1) (hl2 : s.heap.IsTuple l2 xs2)
    (h : ∀ h', IsZipF h' (s.heap.objs.size + 4) (s.heap.objs.size + 2) (s.heap.objs.size + 3) .none false → IsTupA h' (s.heap.objs.size + 2) #[.ref s.heap.objs.size, .ref (s.heap.objs.size + 1)] → IsTupA h' (s.heap.objs.size + 3) #[.none, .none] → h'.IsListIter s.heap.objs.size l1 0 → h'.IsTupleIter (s.heap.objs.size + 1) l2 0 → h'.objs.size = (s.heap.objs.size + 5) → (∀ c o, s.heap.get? c = some o → h'.get? c = some o) → Q (.ref (s.heap.objs.size + 4)) { s with heap := h' }) :
    wpAny (model prog w) A (call (.type "zip") [.ref l1, .ref l2]) Q E s := by
  refine callType_new F.called_zip (by decide) (F.typeCall_zip_2 _ _) (F.newCall_zip_2 _ _) (fun obj => F.args_object_init_3 obj _ _) F.entry_zip_new (meets_zm_new l1 l2 xs1 xs2) ⟨hl1, hl2, ?_⟩
  have z1 : (ztmH1 s.heap l1).objs.size = (s.heap.objs.size + 1) := Heap.size_push ..
  have z2 : (ztmH2 s.heap l1 l2).objs.size = (s.heap.objs.size + 2) := by rw [Heap.size_push, z1]
  have z3 : (ztmTI s.heap l1 l2).objs.size = (s.heap.objs.size + 3) := by rw [Heap.size_push, z2]
  have z4 : (ztmTO s.heap l1 l2).objs.size = (s.heap.objs.size + 4) := by rw [Heap.size_push, z3]
  have z5 : (ztmZ s.heap l1 l2).objs.size = (s.heap.objs.size + 5) := by rw [Heap.size_push, z4]
  have g0 : (ztmZ s.heap l1 l2).get? s.heap.objs.size = some _ := Heap.get?_push_of_some _ (Heap.get?_push_of_some _ (Heap.get?_push_of_some _ (Heap.get?_push_of_some _ (Heap.get?_push_size _ rfl))))
  have g1 : (ztmZ s.heap l1 l2).get? (ztmH1 s.heap l1).objs.size = some _ := Heap.get?_push_of_some _ (Heap.get?_push_of_some _ (Heap.get?_push_of_some _ (Heap.get?_push_size _ rfl)))
  have g2 : (ztmZ s.heap l1 l2).get? (ztmH2 s.heap l1 l2).objs.size = some _ := Heap.get?_push_of_some _ (Heap.get?_push_of_some _ (Heap.get?_push_size _ rfl))
  have g3 : (ztmZ s.heap l1 l2).get? (ztmTI s.heap l1 l2).objs.size = some _ := Heap.get?_push_of_some _ (Heap.get?_push_size _ rfl)
  have g4 : (ztmZ s.heap l1 l2).get? (ztmTO s.heap l1 l2).objs.size = some _ := Heap.get?_push_size _ rfl
  show _ ∧ _
  rw [z2, z3, z4] at g4
  rw [z1, z2] at g2
  rw [z3] at g3
  rw [z1] at g1
  rw [z4]
  exact ⟨⟨_, g4, rfl⟩, h _ g4 g2 g3 ⟨_, g0, rfl, rfl⟩ ⟨_, g1, rfl, rfl⟩ z5 fun c o x => Heap.get?_push_of_some _ (Heap.get?_push_of_some _ (Heap.get?_push_of_some _ (Heap.get?_push_of_some _ (Heap.get?_push_of_some _ (x)))))⟩
end
theorem letgo_any {prog : Program} {w : World} {A : Around} {E : Value → Shared → Prop} {s : Shared} {elts : List Expr} {kk : Nat} {pos : Pos} {z TI TO T : Addr} {f0 : Value} {f1 : Bool} {Q : Unit → Shared → Prop} (hz : IsZipF s.heap z TI TO f0 f1) (hf : OwnF f0)
    (hQ : ∀ h' f', OwnF f' → IsZipF h' z TI TO f' f1 → Heap.SameBut z s.heap h' → Q () { s with heap := h' }) : wpAny (model prog w) A (letOwnedTupleGo (.Tuple elts kk pos) (.ref z) (.ref T)) Q E s := by
  unfold letOwnedTupleGo
  refine wpAny_bind (wpAny_load hz ?_)
  by_cases hc : (["enumerate", "zip", "dict_itemiterator", "dict_reverseitemiterator", "odict_iterator", "itertools.zip_longest", "itertools.pairwise"].contains "zip" && (#[f0, .bool f1, .bool false, .ref TI, .ref TO] : Array Value)[0]? == some (rawInt T)) = true
  · refine PySem.W.KFB.if_so hc ?_
    refine wpAny_bind (wpAny_rule ?_)
    show wpAny _ _ (setField (.ref z) 0 .none) Q E s
    exact wpAny_setField_rec hz (by simp) fun h' hz' hs' => hQ h' .none (.inl rfl) hz' hs'
  · refine PySem.W.KFB.if_not (Bool.eq_false_iff.mpr hc) ?_
    exact wpAny_pure (hQ s.heap f0 hf hz ⟨rfl, fun _ _ => rfl⟩)
/-- the list and the tuple as they stand at each turn, the items in a new tuple -/
def ItSM (K : PySem.W.Frag) (a1 a2 : Addr) : It :=
  ⟨fun i H => ∃ (xs1 xs2 : List V) (x1 x2 : V), SqL K H a1 xs1 ∧ SqT K H a2 xs2 ∧ xs1[i]? = some x1 ∧ xs2[i]? = some x2,
    fun i H v H' => ∃ T x1 x2, v = .ref T ∧ H T = none ∧ H' = upd H T (.tup [x1, x2]) ∧ (∀ ys, SqL K H a1 ys → ys[i]? = some x1) ∧ (∀ ys, SqT K H a2 ys → ys[i]? = some x2),
    fun i H => ∃ (xs1 xs2 : List V), SqL K H a1 xs1 ∧ SqT K H a2 xs2 ∧ xs1.length ≤ i⟩
theorem turn_SM {P : Program} {w : World} {K : PySem.W.Frag} {elts : List Expr} {kk : Nat} {tpos : Pos} {z TI TO i1 i2 a1 a2 : Addr} (D : ZA2 z TI TO i1 i2 a1 a2) : Turn P w K (.Tuple elts kk tpos) (ItSM K a1 a2) [z, TI, TO, i1, i2] z (fun i h => ∃ f0 f1 arr, OwnF f0 ∧ IsZipF h z TI TO f0 f1 ∧ IsTupA h TI #[.ref i1, .ref i2] ∧ IsTupA h TO arr ∧ arr.size = 2 ∧ h.IsListIter i1 a1 i ∧ h.IsTupleIter i2 a2 i) where
  mem := by simp
  obj := fun i h st c hc => by
    obtain ⟨f0, f1, arr, hf0, hz, hTI, hTO, hsz, ⟨o1, e1, _, d1⟩, ⟨o2, e2, _, d2⟩⟩ := st
    have e' : c = z ∨ c = TI ∨ c = TO ∨ c = i1 ∨ c = i2 := by simpa using hc
    rcases e' with q | q | q | q | q
    · rw [q]; exact ⟨_, hz, fun v q => nomatch q⟩
    · rw [q]; exact ⟨_, hTI, fun v q => nomatch q⟩
    · rw [q]; exact ⟨_, hTO, fun v q => nomatch q⟩
    · rw [q]; exact ⟨o1, e1, fun v q => by rw [d1] at q; cases q⟩
    · rw [q]; exact ⟨o2, e2, fun v q => by rw [d2] at q; cases q⟩
  keep := fun i h h' st k => by
    obtain ⟨f0, f1, arr, hf0, hz, hTI, hTO, hsz, h1, h2⟩ := st
    exact ⟨f0, f1, arr, hf0, k z (by simp) _ hz, k TI (by simp) _ hTI, k TO (by simp) _ hTO, hsz, h1.at fun o q => k i1 (by simp) o q, h2.at fun o q => k i2 (by simp) o q⟩
  item := by
    intro X hP hw hK hc i pins s σ H E I hf st hg
    subst hP hw hK
    obtain ⟨f0, f1, arr, hf0, hz, hTI, hTO, hsz, h1, h2⟩ := st
    obtain ⟨xs1, xs2, x1, x2, hq1, hq2, hx1, hx2⟩ := hg
    obtain ⟨its1, rv1, p1, _⟩ := I.list hq1
    obtain ⟨w1, hw1, rw1⟩ := rv1.get hx1
    obtain ⟨its2, rv2, p2, _⟩ := I.tuple hq2
    obtain ⟨w2, hw2, rw2⟩ := rv2.get hx2
    have hzl : z < s.heap.objs.size := Heap.lt_size hz
    refine zm_pyNext_item D hz hf0 hTI hTO hsz h1 h2 p1.isList p2 (by simpa using hw1) (by simpa using hw2) fun h3 f3 f1' arr' hf3 hz3 TO3 hsz' h13 h23 hT3 hsz2 hk3 => ?_
    refine ⟨_, rfl, letgo_any (s := { s with heap := h3 }) hz3 hf3 fun h' f0' hf0' hz' sb => ?_⟩
    have TO' : IsTupA h' TO arr' := (sb.2 _ D.TOz).trans TO3
    have h1' := h13.at fun o q => (sb.2 _ D.i1z).trans q
    have h2' := h23.at fun o q => (sb.2 _ D.i2z).trans q
    have hT : IsTupA h' s.heap.objs.size _ := (sb.2 _ (Nat.ne_of_gt hzl)).trans hT3
    have hk : ∀ c o, c ≠ z → c ≠ TO → c ≠ i1 → c ≠ i2 → s.heap.get? c = some o → h'.get? c = some o := fun c o c1 c2 c3 c4 e => (sb.2 _ c1).trans (hk3 c o c1 c2 c3 c4 e)
    have new : ObjOk X.prog X.w (upd H s.heap.objs.size (.tup [x1, x2])) h' s.heap.objs.size (.tup [x1, x2]) := ⟨by show 2 ≤ sizeLine; decide, [w1, w2], .cons rw1 (.cons rw2 (.nil)), ⟨_, hT, rfl, _, rfl⟩⟩
    have I1 : Inv X pins σ (upd H s.heap.objs.size (.tup [x1, x2])) { s with heap := h' } :=
      I.turnedNew (t' := s.toks) (ch := [z, TI, TO, i1, i2]) (fun c o hb q => hk c o (fun q' => hb (by simp [q'])) (fun q' => hb (by simp [q'])) (fun q' => hb (by simp [q'])) (fun q' => hb (by simp [q'])) q) hf (Nat.le_refl _) new
    refine ⟨.ref s.heap.objs.size, _, I1, rfl, ⟨_, x1, x2, rfl, I.hok.fresh (Nat.le_refl _), rfl, fun l hl => by rw [I.list_inj hl hq1]; exact hx1, fun l hl => by rw [I.tuple_inj hl hq2]; exact hx2⟩, ⟨f0', f1', arr', hf0', hz', ?_, TO', hsz', h1', h2'⟩, fun c hcm => ?_⟩
    · exact hk _ _ D.TIz D.TITO D.TIi1 D.TIi2 hTI
    · have hlt : c < s.heap.objs.size := by
        have e' : c = z ∨ c = TI ∨ c = TO ∨ c = i1 ∨ c = i2 := by simpa using hcm
        rcases e' with q | q | q | q | q
        · rw [q]; exact hzl
        · rw [q]; exact Heap.lt_size hTI
        · rw [q]; exact Heap.lt_size hTO
        · rw [q]; obtain ⟨_, e1, _⟩ := h1; exact Heap.lt_size e1
        · rw [q]; obtain ⟨_, e1, _⟩ := h2; exact Heap.lt_size e1
      rw [upd_ne (Nat.ne_of_lt hlt)]
      exact (hf c hcm).1
  done := by
    intro X hP hw hK hc i pins s σ H E I hf st hg
    subst hP hw hK
    obtain ⟨f0, f1, arr, hf0, hz, hTI, hTO, hsz, h1, h2⟩ := st
    obtain ⟨xs1, xs2, hq1, hq2, hend⟩ := hg
    obtain ⟨its1, rv1, p1, _⟩ := I.list hq1
    obtain ⟨its2, rv2, p2, _⟩ := I.tuple hq2
    have l1 := rv1.length
    exact zm_pyNext_end (I.ok.hd hc) D hz hf0 hTI hTO hsz h1 h2 p1.isList p2 (by simp; omega) fun h' hk => ⟨rfl, I.turnedL (t' := s.toks) (ch := [z, TI, TO, i1, i2]) (fun c o hb q => hk c o (fun q' => hb (by simp [q'])) (fun q' => hb (by simp [q'])) (fun q' => hb (by simp [q'])) (fun q' => hb (by simp [q'])) q) hf⟩
  self := fun A i s Q E st h => by
    obtain ⟨f0, f1, arr, hf0, hz, _⟩ := st
    exact pyIter_zipF hz h

theorem apartM (I a1 a2 : Nat) (h1 : a1 < I) (h2 : a2 < I) : ZA2 (I + 4) (I + 2) (I + 3) I (I + 1) a1 a2 := by
  constructor <;> (refine neA ?_; omega)
def iZipM (K : PySem.W.Frag) (ta : TA) : TI := fun σ H R => ta σ H fun vs H1 => ∃ (a b : Addr) (xs ys : List V), vs = [.ref a, .ref b] ∧ SqL K H1 a xs ∧ SqT K H1 b ys ∧ R (ItSM K a b) H1
theorem pi_zipM {X : Cx} {e e2 : Expr} {ta : TA} {p pos tpos : Pos} {elts : List Expr} {kk : Nat} (hg : Gl X "zip") (hm : X.mg "zip" = none) (ha : PA X [e, e2] ta)
    (hs : starEach [e, e2] X.env = (false, eval e X.env) :: starEach [e2] X.env := by rfl) (hpl : (backTo pos (starEach [e2] X.env)).any (·.1) = false := by rfl) :
    PI X (.Tuple elts kk tpos) (.Call (.Name "zip" p) [e, e2] [] pos) (iZipM X.K ta) := by
  refine ⟨fun pins s σ H R I h => ?_⟩
  refine Call_ (ld_blt I hg hm PyProof.Rows.boot_zip (PyProof.Rows.callWith_type1 (thn (ha.run pos pins s σ H _ I h) fun us s1 ⟨vs, H1, I1, r1, a, b, xs, ys, ev, hq1, hq2, q⟩ => ?_) hs hpl))
  subst ev
  obtain rfl : us = [.ref a, .ref b] := vals_refs2 r1
  obtain ⟨its1, rv1, p1, _⟩ := I1.list hq1
  obtain ⟨its2, rv2, p2, _⟩ := I1.tuple hq2
  obtain ⟨o2, ho2, _⟩ := id p2
  refine call_zm p1.isList (show s1.heap.IsTuple b its2.toArray from p2) fun h' hz hTI hTO h1 h2 hsz hk => pyIter_zipF hz ?_
  have I2 : Inv X pins σ H1 { s1 with heap := h' } := I1.kept (t' := s1.toks) hk
  refine ⟨s1.heap.objs.size + 4, [s1.heap.objs.size + 4, s1.heap.objs.size + 2, s1.heap.objs.size + 3, s1.heap.objs.size, s1.heap.objs.size + 1], _, _, H1, rfl, I2, turn_SM (apartM s1.heap.objs.size a b p1.lt (Heap.lt_size ho2)), ⟨_, _, _, .inl rfl, hz, hTI, hTO, rfl, h1, h2⟩, fun c hcm => ?_, q⟩
  have hle : s1.heap.objs.size ≤ c := by
    simp only [List.mem_cons, List.not_mem_nil, or_false] at hcm
    rcases hcm with rfl | rfl | rfl | rfl | rfl <;> first | exact Nat.le_refl _ | exact Nat.le_add_right _ _
  exact I1.fpOk hle (I1.hok.fresh hle)
end Hs
namespace Hs
/-! ### rows of counts (lists turned round: the last count first) -/
def rows1 (rs : List (List Int)) (c : Int) : List (List Int) := rs.flatMap fun r => (List.range c.toNat).map fun i : Nat => r ++ [(i : Int)]
def RR : List Int → List (List Int)
  | [] => [[]]
  | c :: l => rows1 (RR l) c
def PR : List Int → Int
  | [] => 1
  | c :: l => PR l * c
def digs : List Int → Int → List Int
  | [], _ => []
  | c :: l, n => n % c :: digs l (n / c)
def rowR (l : List Int) (n : Int) : List Int := (digs l n).reverse
def restI : List Int → Int → Nat → Int
  | _, n, 0 => n
  | [], n, _ + 1 => n
  | c :: l, n, i + 1 => restI l (n / c) i
def nums (cs r : List Int) : Nat → Int
  | 0 => 0
  | i + 1 => nums cs r i * cs.getD i 0 + r.getD i 0
def Cnt (cs : List Int) : Prop := cs.length ≤ 5 ∧ ∀ c ∈ cs, 1 ≤ c ∧ c ≤ 6
theorem Cnt.rev {cs : List Int} (h : Cnt cs) : Cnt cs.reverse := ⟨by rw [List.length_reverse]; exact h.1, fun c hc => h.2 c (List.mem_reverse.mp hc)⟩
theorem take_rev {cs : List Int} {i : Nat} {c : Int} (h : cs[i]? = some c) : (cs.take (i + 1)).reverse = c :: (cs.take i).reverse := by
  rw [List.take_add_one, h, List.reverse_append] <;> rfl
theorem PR_bd : ∀ {l : List Int}, (∀ c ∈ l, 1 ≤ c ∧ c ≤ 6) → 1 ≤ PR l ∧ PR l ≤ 6 ^ l.length
  | [], _ => ⟨Int.le_refl _, Int.le_refl _⟩
  | c :: l, h => by
    obtain ⟨h1, h2⟩ := PR_bd (l := l) fun x hx => h x (List.mem_cons_of_mem _ hx)
    obtain ⟨c1, c2⟩ := h c (List.mem_cons_self ..)
    constructor
    · show 1 ≤ PR l * c
      have := Int.mul_le_mul h1 c1 (by omega) (by omega)
      omega
    · show PR l * c ≤ 6 ^ (l.length + 1)
      rw [Int.pow_succ]
      exact Int.mul_le_mul h2 c2 (by omega) (by omega)
theorem six_le {n : Nat} (h : n ≤ 5) : (6 : Int) ^ n ≤ 7776 := by
  have : n = 0 ∨ n = 1 ∨ n = 2 ∨ n = 3 ∨ n = 4 ∨ n = 5 := by omega
  rcases this with rfl | rfl | rfl | rfl | rfl | rfl <;> decide
theorem PR_small {l : List Int} (h : Cnt l) : 1 ≤ PR l ∧ PR l ≤ 7776 := by
  obtain ⟨h1, h2⟩ := PR_bd h.2
  have := six_le h.1
  exact ⟨h1, by omega⟩
theorem Cnt.take {cs : List Int} (h : Cnt cs) (i : Nat) : Cnt (cs.take i).reverse := by
  refine Cnt.rev ⟨?_, fun c hc => h.2 c (List.mem_of_mem_take hc)⟩
  rw [List.length_take]
  have := h.1
  omega
theorem rows1_len {rs : List (List Int)} {c : Int} : (rows1 rs c).length = rs.length * c.toNat := by
  induction rs with
  | nil => simp [rows1]
  | cons r rs ih =>
    have e : rows1 (r :: rs) c = ((List.range c.toNat).map fun i : Nat => r ++ [(i : Int)]) ++ rows1 rs c := by simp [rows1]
    rw [e, List.length_append, ih, List.length_map, List.length_range, List.length_cons, Nat.succ_mul]
    omega
theorem rows1_at {rs : List (List Int)} {c : Int} (hc : 1 ≤ c) : ∀ {n : Nat}, (rows1 rs c)[n]? = (rs[n / c.toNat]?).map fun r => r ++ [((n % c.toNat : Nat) : Int)] := by
  have hk : 0 < c.toNat := by omega
  generalize hkk : c.toNat = k at hk
  induction rs with
  | nil => intro n; simp [rows1]
  | cons r rs ih =>
    intro n
    have e : rows1 (r :: rs) c = ((List.range c.toNat).map fun i : Nat => r ++ [(i : Int)]) ++ rows1 rs c := by simp [rows1]
    rw [e, hkk]
    by_cases h : n < k
    · rw [List.getElem?_append_left (by simpa using h), Nat.div_eq_of_lt h, Nat.mod_eq_of_lt h]
      simp [h]
    · have h1 : n / k = (n - k) / k + 1 := by rw [Nat.div_eq_sub_div hk (by omega)]
      have h2 : n % k = (n - k) % k := by rw [Nat.mod_eq_sub_mod (by omega)]
      rw [List.getElem?_append_right (by simpa using (by omega : k ≤ n)), h1, h2]
      simp only [List.length_map, List.length_range, List.getElem?_cons_succ]
      exact ih
theorem RR_len : ∀ {l : List Int}, (∀ c ∈ l, 1 ≤ c ∧ c ≤ 6) → ((RR l).length : Int) = PR l
  | [], _ => rfl
  | c :: l, h => by
    have ih := RR_len (l := l) fun x hx => h x (List.mem_cons_of_mem _ hx)
    obtain ⟨c1, c2⟩ := h c (List.mem_cons_self ..)
    show ((rows1 (RR l) c).length : Int) = PR l * c
    rw [rows1_len, Int.natCast_mul, ih, Int.toNat_of_nonneg (by omega)]
theorem RR_at : ∀ {l : List Int}, (∀ c ∈ l, 1 ≤ c ∧ c ≤ 6) → ∀ {n : Nat}, (n : Int) < PR l → (RR l)[n]? = some (rowR l n)
  | [], _, n, hn => by
    have : n = 0 := by
      have : (n : Int) < 1 := hn
      omega
    subst this
    rfl
  | c :: l, h, n, hn => by
    obtain ⟨c1, c2⟩ := h c (List.mem_cons_self ..)
    have hl := fun x hx => h x (List.mem_cons_of_mem _ hx)
    have ek : ((c.toNat : Nat) : Int) = c := Int.toNat_of_nonneg (by omega)
    have hq : ((n / c.toNat : Nat) : Int) = (n : Int) / c := by rw [Int.natCast_ediv, ek]
    have hm : ((n % c.toNat : Nat) : Int) = (n : Int) % c := by rw [Int.natCast_emod, ek]
    have hn' : ((n / c.toNat : Nat) : Int) < PR l := by
      rw [hq]
      exact Int.ediv_lt_of_lt_mul (by omega) hn
    show (rows1 (RR l) c)[n]? = some (digs (c :: l) n).reverse
    rw [rows1_at c1, RR_at (l := l) hl hn', hm]
    show some (rowR l ((n / c.toNat : Nat) : Int) ++ [(n : Int) % c]) = some ((n : Int) % c :: digs l ((n : Int) / c)).reverse
    rw [hq, List.reverse_cons] <;> rfl
theorem digs_len : ∀ {l : List Int} {n : Int}, (digs l n).length = l.length
  | [], _ => rfl
  | c :: l, n => by
    show (digs l (n / c)).length + 1 = l.length + 1
    rw [digs_len]
theorem digs_step : ∀ {l : List Int} {n : Int} {i : Nat} {c : Int}, l[i]? = some c → digs (l.take (i + 1)) n = digs (l.take i) n ++ [restI l n i % c] ∧ restI l n (i + 1) = restI l n i / c
  | [], _, _, _, h => by cases h
  | a :: l, n, 0, c, h => by
    cases h
    refine ⟨rfl, ?_⟩
    show restI l (n / a) 0 = n / a
    cases l <;> rfl
  | a :: l, n, i + 1, c, h => by
    obtain ⟨h1, h2⟩ := digs_step (l := l) (n := n / a) (i := i) (c := c) h
    refine ⟨?_, h2⟩
    show n % a :: digs (l.take (i + 1)) (n / a) = (n % a :: digs (l.take i) (n / a)) ++ [restI l (n / a) i % c]
    rw [h1] <;> rfl
theorem rest_bd : ∀ {l : List Int} {n : Int} {i : Nat}, (∀ c ∈ l, 1 ≤ c ∧ c ≤ 6) → 0 ≤ n → 0 ≤ restI l n i ∧ restI l n i ≤ n
  | [], n, 0, _, h => ⟨h, Int.le_refl _⟩
  | [], n, i + 1, _, h => ⟨h, Int.le_refl _⟩
  | a :: l, n, 0, _, h => ⟨h, Int.le_refl _⟩
  | a :: l, n, i + 1, hl, h => by
    obtain ⟨c1, c2⟩ := hl a (List.mem_cons_self ..)
    have q := Int.ediv_nonneg h (by omega : 0 ≤ a)
    obtain ⟨h1, h2⟩ := rest_bd (l := l) (n := n / a) (i := i) (fun x hx => hl x (List.mem_cons_of_mem _ hx)) q
    refine ⟨h1, Int.le_trans h2 ?_⟩
    exact Int.ediv_le_self a h
theorem nums_pre {a b x y : List Int} : ∀ {i : Nat}, i ≤ a.length → i ≤ b.length → nums (a ++ x) (b ++ y) i = nums a b i
  | 0, _, _ => rfl
  | i + 1, h1, h2 => by
    show nums (a ++ x) (b ++ y) i * (a ++ x).getD i 0 + (b ++ y).getD i 0 = nums a b i * a.getD i 0 + b.getD i 0
    rw [nums_pre (by omega) (by omega), List.getD_eq_getElem?_getD, List.getD_eq_getElem?_getD, List.getElem?_append_left (by omega), List.getElem?_append_left (by omega), ← List.getD_eq_getElem?_getD, ← List.getD_eq_getElem?_getD]
theorem nums_row : ∀ {l : List Int}, (∀ c ∈ l, 1 ≤ c ∧ c ≤ 6) → ∀ {n : Int}, 0 ≤ n → n < PR l → nums l.reverse (rowR l n) l.length = n
  | [], _, n, h0, h1 => by
    have h1 : n < 1 := h1
    have : n = 0 := by omega
    subst this
    rfl
  | c :: l, hl, n, h0, h1 => by
    obtain ⟨c1, c2⟩ := hl c (List.mem_cons_self ..)
    have hl' := fun x hx => hl x (List.mem_cons_of_mem _ hx)
    have hq : n / c < PR l := Int.ediv_lt_of_lt_mul (by omega) h1
    have ih := nums_row (l := l) hl' (Int.ediv_nonneg h0 (by omega)) hq
    have er : rowR (c :: l) n = rowR l (n / c) ++ [n % c] := by
      show (n % c :: digs l (n / c)).reverse = _
      rw [List.reverse_cons] <;> rfl
    have len : (rowR l (n / c)).length = l.length := by
      unfold rowR
      rw [List.length_reverse, digs_len]
    rw [er, List.reverse_cons]
    show nums (l.reverse ++ [c]) (rowR l (n / c) ++ [n % c]) l.length * (l.reverse ++ [c]).getD l.length 0 + (rowR l (n / c) ++ [n % c]).getD l.length 0 = n
    rw [nums_pre (by simp) (by rw [len]; exact Nat.le_refl _), ih]
    have e1 : (l.reverse ++ [c]).getD l.length 0 = c := by
      rw [List.getD_eq_getElem?_getD, List.getElem?_append_right (by simp)]
      simp
    have e2 : (rowR l (n / c) ++ [n % c]).getD l.length 0 = n % c := by
      rw [List.getD_eq_getElem?_getD, List.getElem?_append_right (by rw [len]; exact Nat.le_refl _), len]
      simp
    rw [e1, e2]
    have := Int.mul_ediv_add_emod n c
    rw [Int.mul_comm] at this
    exact this
/-- the digits stand below their counts -/
def Below (cs r : List Int) (k : Nat) : Prop := ∀ (i : Nat) (c d : Int), i < k → cs[i]? = some c → r[i]? = some d → 0 ≤ d ∧ d < c
theorem below_row : ∀ {l : List Int}, (∀ c ∈ l, 1 ≤ c ∧ c ≤ 6) → ∀ {n : Int} {k : Nat}, Below l.reverse (rowR l n) k
  | [], _, n, k => fun i c d _ h _ => by cases h
  | a :: l, hl, n, k => fun i c d hi hc hd => by
    obtain ⟨c1, c2⟩ := hl a (List.mem_cons_self ..)
    have hl' := fun x hx => hl x (List.mem_cons_of_mem _ hx)
    have er : rowR (a :: l) n = rowR l (n / a) ++ [n % a] := by
      show (n % a :: digs l (n / a)).reverse = _
      rw [List.reverse_cons] <;> rfl
    have len : (rowR l (n / a)).length = l.length := by
      unfold rowR
      rw [List.length_reverse, digs_len]
    rw [er] at hd
    rw [List.reverse_cons] at hc
    by_cases h : i < l.length
    · rw [List.getElem?_append_left (by simpa using h)] at hc
      rw [List.getElem?_append_left (by rw [len]; exact h)] at hd
      exact below_row (l := l) hl' i c d hi hc hd
    · rw [List.getElem?_append_right (by simpa using (by omega : l.length ≤ i))] at hc
      rw [List.getElem?_append_right (by rw [len]; omega)] at hd
      have e0 : i - l.reverse.length = 0 := by
        have : i - l.reverse.length < 1 := (List.getElem?_eq_some_iff.mp hc).1
        omega
      rw [e0] at hc
      have e1 : i - (rowR l (n / a)).length = 0 := by
        rw [len]
        rw [List.length_reverse] at e0
        exact e0
      rw [e1] at hd
      cases hc
      cases hd
      exact ⟨Int.emod_nonneg _ (by omega), Int.emod_lt_of_pos _ (by omega)⟩
theorem nums_bd {cs r : List Int} (hc : ∀ c ∈ cs, 1 ≤ c ∧ c ≤ 6) : ∀ {k : Nat}, k ≤ cs.length → k ≤ r.length → Below cs r k → 0 ≤ nums cs r k ∧ nums cs r k < 6 ^ k
  | 0, _, _, _ => ⟨Int.le_refl _, (by decide : (0 : Int) < 6 ^ 0)⟩
  | k + 1, h1, h2, hb => by
    obtain ⟨i1, i2⟩ := nums_bd hc (k := k) (by omega) (by omega) fun i c d hi => hb i c d (by omega)
    have g1 : cs[k]? = some (cs.getD k 0) := by rw [List.getD_eq_getElem?_getD, List.getElem?_eq_getElem (by omega)] <;> rfl
    have g2 : r[k]? = some (r.getD k 0) := by rw [List.getD_eq_getElem?_getD, List.getElem?_eq_getElem (by omega)] <;> rfl
    obtain ⟨d1, d2⟩ := hb k _ _ (by omega) g1 g2
    obtain ⟨c1, c2⟩ := hc _ (List.mem_of_getElem? g1)
    generalize cs.getD k 0 = c at g1 d2 c1 c2 ⊢
    generalize r.getD k 0 = d at g2 d1 d2 ⊢
    show 0 ≤ nums cs r k * cs.getD k 0 + r.getD k 0 ∧ _
    have ec : cs.getD k 0 = c := by rw [List.getD_eq_getElem?_getD, g1] <;> rfl
    have ed : r.getD k 0 = d := by rw [List.getD_eq_getElem?_getD, g2] <;> rfl
    rw [show nums cs r (k + 1) = nums cs r k * cs.getD k 0 + r.getD k 0 from rfl, ec, ed]
    generalize nums cs r k = m at i1 i2 ⊢
    have p0 := Int.mul_nonneg i1 (by omega : 0 ≤ c)
    refine ⟨by omega, ?_⟩
    have p1 : m * c + c ≤ 6 ^ k * c := by
      have : (m + 1) * c ≤ 6 ^ k * c := Int.mul_le_mul_of_nonneg_right (by omega) (by omega)
      rw [Int.add_mul, Int.one_mul] at this
      exact this
    have p2 : (6 : Int) ^ k * c ≤ 6 ^ k * 6 := Int.mul_le_mul_of_nonneg_left c2 (Int.le_trans i1 (Int.le_of_lt i2))
    rw [Int.pow_succ]
    omega
theorem row_len {l : List Int} {n : Int} : (rowR l n).length = l.length := by
  unfold rowR
  rw [List.length_reverse, digs_len]
theorem RR_row {l : List Int} {r : List Int} : r ∈ RR l → r.length = l.length := by
  induction l generalizing r with
  | nil =>
    intro h
    have h : r ∈ [([] : List Int)] := h
    rw [List.mem_singleton.mp h] <;> rfl
  | cons c l ih =>
    intro h
    have h : r ∈ rows1 (RR l) c := h
    unfold rows1 at h
    obtain ⟨q, hq, h⟩ := List.mem_flatMap.mp h
    obtain ⟨i, _, rfl⟩ := List.mem_map.mp h
    rw [List.length_append, ih hq] <;> rfl
end Hs
namespace Hs
open PySem PySem.Spec PyProof.Rows L2 Evl
/-! ### lists or tuples; rows of choices -/
theorem ip_mul {X : Cx} : PIp X .Mult (fun x y H Q => ∃ i j, x = .int i ∧ y = .int j ∧ CMulW i j ∧ Q (.int (i * j)) H) := by
  intro pins s σ H x y v u Q I r1 r2 h
  obtain ⟨i, j, e1, e2, hc, q⟩ := h
  subst e1; subst e2
  obtain ⟨t, rfl⟩ := r1
  obtain ⟨t', rfl⟩ := r2
  exact imul_int ⟨.int _, H, I.tok _, ⟨_, rfl⟩, q⟩ hc.ok
theorem pa_starK {X : Cx} {K : PySem.W.Frag} {e : Expr} {es : List Expr} {te : TE} {t : TA} {p : Pos} (he : PE X e te) (hr : PA X es t) (hK : X.K = K := by rfl) (hs : starEach (.Starred e p :: es) X.env = (true, eval e X.env) :: starEach es X.env := by rfl) : PA X (.Starred e p :: es) (StX.tStar K te t) := by
  subst hK
  exact StX.pa_star he hr hs
def SqQ (K : PySem.W.Frag) (H : Hp) (a : Addr) (xs : List V) : Prop := SqL K H a xs ∨ SqT K H a xs
theorem SqQ.ext {K : PySem.W.Frag} {H H' : Hp} {a : Addr} {xs : List V} (h : SqQ K H a xs) (e : Ex H H') : SqQ K H' a xs := h.imp (fun h => ex_l e h) fun h => ex_t e h
def iSeq (K : PySem.W.Frag) (tl : TE) : TI := fun σ H R => iList K tl σ H R ∨ iTup K tl σ H R
theorem pi_seq {X : Cx} {tg l : Expr} {tl : TE} (hl : PE X l tl) : PI X tg l (iSeq X.K tl) := ⟨fun pins s σ H R I h => h.elim (fun h => (pi_list hl).run pins s σ H R I h) fun h => (pi_tup hl).run pins s σ H R I h⟩
section
variable {K : PySem.W.Frag} {D : Ends} {σ : L2.St} {H : Hp} {g : TG} {tu tz : TS}
theorem s_forQ {a : Addr} {xs : List V} {tl : TE} (h : Ev tl σ H (.ref a)) (hx : SqQ K H a xs) (Pv : Nat → L2.St → Hp → Prop) (h0 : ∀ H1, Ex H H1 → Pv 0 σ H1) (hl : ∀ i σ' H', Pv i σ' H' → Ex H H')
    (hs : ∀ i x σ' H', xs[i]? = some x → Pv i σ' H' → g x σ' H' fun σ2 H2 => tu { D with nx := Pv (i + 1), ct := Pv (i + 1), bk := D.nx } σ2 H2) (hd : ∀ σ' H', Pv xs.length σ' H' → D.nx σ' H') : tFor (iSeq K tl) g tu D σ H := by
  rcases hx with hx | hx
  · exact .inl (s_forL h hx Pv h0 (fun i σ' H' _ p => ex_l (hl i σ' H' p) hx) hs hd)
  · exact .inr (s_forT h hx Pv h0 (fun i σ' H' _ p => ex_t (hl i σ' H' p) hx) hs hd)
theorem q_forQ {a : Addr} {xs : List V} {tl : TE} (h : Ev tl σ H (.ref a)) (hx : SqQ K H a xs) (Pv : Nat → L2.St → Hp → Prop) (h0 : ∀ H1, Ex H H1 → Pv 0 σ H1) (hl : ∀ i σ' H', Pv i σ' H' → Ex H H')
    (hs : ∀ i x σ' H', xs[i]? = some x → Pv i σ' H' → g x σ' H' fun σ2 H2 => tu { D with nx := Pv (i + 1), ct := Pv (i + 1), bk := tz D } σ2 H2) (hd : ∀ σ' H', Pv xs.length σ' H' → tz D σ' H') : tSeq (tFor (iSeq K tl) g tu) tz D σ H := s_forQ (D := { D with nx := tz D }) h hx Pv h0 hl hs hd
end
def Flies (C : Addr) (wd : Str) (H : Hp) (E : XK) : Prop := ∀ d H', Ex H H' → H d = none → H' d = some (.xd [("word", .str wd)]) → E (.ref C) (some d) H'
theorem Flies.ext {C : Addr} {wd : Str} {H H1 : Hp} {E : XK} (h : Flies C wd H E) (e : Ex H H1) : Flies C wd H1 E := fun d H' e' n hd => h d H' (e.trans e') (fresh_back e n) hd
abbrev iv (cs : List Int) : List V := cs.map V.int
theorem iv_at {cs : List Int} {i : Nat} {x : V} (h : (iv cs)[i]? = some x) : ∃ c, x = .int c ∧ cs[i]? = some c := by
  rw [List.getElem?_map] at h
  obtain ⟨c, hc, rfl⟩ := Option.map_eq_some_iff.mp h
  exact ⟨c, rfl, hc⟩
def spMany (K : PySem.W.Frag) : Sp := fun vs H Q _ => ∃ (a : Addr) (cs : List Int), vs = [.ref a] ∧ SqQ K H a (iv cs) ∧ Cnt cs ∧ RetV (.int (PR cs.reverse)) H Q
section
variable {P : Program} {w : World} {K : PySem.W.Frag} {mg : Str → Option Value} {base : Heap} {f C : Addr} {fd : FuncData}
abbrev sMany : Stmt := top 52
theorem scMany : FnScope ["counts", "many", "count"] ["counts"] (defScope sMany) := ⟨rfl, rfl, rfl, by decide +kernel, rfl, by decide +kernel, by decide +kernel⟩
theorem ok_many (F : FnP K "how_many" sMany f fd) : FnOk P w K mg base CX0 1 f fd ["counts"] (spMany K) := by
  have nd := scMany.nd
  refine F.ok scMany (fun vs H Q E h => ?_) (fun cdv A outer s H vs Q E hr h => ⟨_, PSs.nox (pss_cons (ps_set (i := 1) nd rfl (.inl rfl) pe_int)
  (pss_cons (ps_for PassesOwn.never rfl (Hs.pi_seq (pv 0)) (pg_name (i := 2) nd rfl (.inl rfl)) (pss_one (ps_aug (i := 1) nd rfl (.inl rfl) (pv 2) Hs.ip_mul)))
  (pss_one (ps_ret (pv 1))))), ?_⟩)
  · obtain ⟨a, cs, rfl, _⟩ := h
    rfl
  · obtain ⟨a, cs, rfl, hS, hC, k⟩ := h
    refine q_asg ev_c fun H1 e1 => ?_
    refine q_forQ (ev_var rfl) (hS.ext e1) (fun i σ' H' => Ex H1 H' ∧ ∃ v2, σ' = [some (.ref a), some (.int (PR (cs.take i).reverse)), v2]) (fun H2 e2 => ⟨e2, none, rfl⟩) (fun i σ' H' p => p.1) (fun i x σ' H' hx p => ?_) (fun σ' H' p => ?_)
    · obtain ⟨e2, v2, rfl⟩ := p
      obtain ⟨c, rfl, hc⟩ := iv_at hx
      obtain ⟨p1, p2⟩ := PR_small (hC.take i)
      obtain ⟨c1, c2⟩ := hC.2 c (List.mem_of_getElem? hc)
      refine ⟨_, rfl, _, rfl, _, _, rfl, rfl, mul64 (by omega) (by omega), ?_⟩
      refine ⟨e2, some (.int c), ?_⟩
      rw [take_rev hc]
      rfl
    · obtain ⟨e2, v2, rfl⟩ := p
      rw [List.length_map, List.take_length]
      exact s_ret (ev_var rfl) fun H3 e3 => k H3 ((e1.trans e2).trans e3)
end
end Hs
namespace Hs
open PySem PySem.Spec PyProof.Rows L2 Evl
/-! ### zip of a list or a tuple with a tuple; reversed -/
def iZipQ (K : PySem.W.Frag) (ta : TA) : TI := fun σ H R => iZipM K ta σ H R ∨ RZ.iZipA K ta σ H R
theorem pi_zipQ {X : Cx} {e e2 : Expr} {ta : TA} {p pos tpos : Pos} {elts : List Expr} {kk : Nat} (hg : Gl X "zip") (hm : X.mg "zip" = none) (ha : PA X [e, e2] ta)
    (hs : starEach [e, e2] X.env = (false, eval e X.env) :: starEach [e2] X.env := by rfl) (hpl : (backTo pos (starEach [e2] X.env)).any (·.1) = false := by rfl) :
    PI X (.Tuple elts kk tpos) (.Call (.Name "zip" p) [e, e2] [] pos) (iZipQ X.K ta) := ⟨fun pins s σ H R I h => h.elim (fun h => (pi_zipM hg hm ha hs hpl).run pins s σ H R I h) fun h => (RZ.pi_zipA hg hm ha hs hpl).run pins s σ H R I h⟩
section
variable {K : PySem.W.Frag} {D : Ends} {σ : L2.St} {H : Hp} {tu tz : TS}
theorem s_zipQ {a b : Addr} {xs ys : List V} {ta tb : TE} {i j : Nat} (ha : Ev ta σ H (.ref a)) (hb : Ev tb σ H (.ref b)) (hx : SqQ K H a xs) (hy : SqT K H b ys) (hl : xs.length = ys.length) (Pv : Nat → L2.St → Hp → Prop) (h0 : ∀ H1, Ex H H1 → Pv 0 σ H1) (he : ∀ i σ' H', Pv i σ' H' → Ex H H')
    (hs : ∀ (k : Nat) (x y : V) σ' H' H'', xs[k]? = some x → ys[k]? = some y → Pv k σ' H' → Ex H' H'' → tu { D with nx := Pv (k + 1), ct := Pv (k + 1), bk := D.nx } ((σ'.set i (some x)).set j (some y)) H'') (hd : ∀ σ' H', Pv xs.length σ' H' → D.nx σ' H') :
    tFor (iZipQ K (tCons ta (tCons tb tNil))) (gTup K 2 (gCons (gName i) (gCons (gName j) gNil))) tu D σ H := by
  rcases hx with hx | hx
  · refine .inl (ha H (Ex.refl H) _ fun H1 e1 => hb H1 e1 _ fun H2 e2 => ⟨a, b, xs, ys, rfl, ex_l (e1.trans e2) hx, ex_t (e1.trans e2) hy, ?_⟩)
    refine ⟨fun k m σ' H' => Pv k σ' H' ∧ k ≤ xs.length ∧ m = xs.length - k, ⟨_, h0 _ (e1.trans e2), Nat.zero_le _, rfl⟩, ?_⟩
    rintro k m σ' H' ⟨p, hk, rfl⟩
    by_cases hlt : k < xs.length
    · have g1 : xs[k]? = some xs[k] := List.getElem?_eq_getElem hlt
      have g2 : ys[k]? = some (ys[k]'(by omega)) := List.getElem?_eq_getElem (by omega)
      have e := he k σ' H' p
      refine .inr ⟨⟨xs, ys, _, _, ex_l e hx, ex_t e hy, g1, g2⟩, Pv (k + 1), fun σ2 H3 p' => ⟨xs.length - (k + 1), by omega, p', hlt, rfl⟩, fun v H3 hv => ?_⟩
      obtain ⟨T, x1, x2, rfl, hT, rfl, f1, f2⟩ := hv
      exact ⟨T, [x1, x2], rfl, st_of upd_same, rfl, _, _, rfl, _, _, rfl, rfl, hs k x1 x2 σ' H' _ (f1 _ (ex_l e hx)) (f2 _ (ex_t e hy)) p (Ex.new hT)⟩
    · have ek : k = xs.length := by omega
      subst ek
      have e := he _ σ' H' p
      exact .inl ⟨⟨xs, ys, ex_l e hx, ex_t e hy, Nat.le_refl _⟩, hd σ' H' p⟩
  · refine .inr (ha H (Ex.refl H) _ fun H1 e1 => hb H1 e1 _ fun H2 e2 => ⟨a, b, xs, ys, rfl, .inr ⟨ex_t (e1.trans e2) hx, ex_t (e1.trans e2) hy, ?_⟩⟩)
    refine ⟨fun k m σ' H' => Pv k σ' H' ∧ k ≤ xs.length ∧ m = xs.length - k, ⟨_, h0 _ (e1.trans e2), Nat.zero_le _, rfl⟩, ?_⟩
    rintro k m σ' H' ⟨p, hk, rfl⟩
    by_cases hlt : k < xs.length
    · have g1 : xs[k]? = some xs[k] := List.getElem?_eq_getElem hlt
      have g2 : ys[k]? = some (ys[k]'(by omega)) := List.getElem?_eq_getElem (by omega)
      have e := he k σ' H' p
      refine .inr ⟨⟨xs, ys, _, _, ex_t e hx, ex_t e hy, g1, g2⟩, Pv (k + 1), fun σ2 H3 p' => ⟨xs.length - (k + 1), by omega, p', hlt, rfl⟩, fun v H3 hv => ?_⟩
      obtain ⟨T, x1, x2, rfl, hT, rfl, f1, f2⟩ := hv
      exact ⟨T, [x1, x2], rfl, st_of upd_same, rfl, _, _, rfl, _, _, rfl, rfl, hs k x1 x2 σ' H' _ (f1 _ (ex_t e hx)) (f2 _ (ex_t e hy)) p (Ex.new hT)⟩
    · have ek : k = xs.length := by omega
      subst ek
      have e := he _ σ' H' p
      exact .inl ⟨⟨xs, ys, ex_t e hx, ex_t e hy, .inl (Nat.le_refl _)⟩, hd σ' H' p⟩
end
def GoodR (cs r : List Int) : Prop := r.length = cs.length ∧ Below cs r cs.length
def spNum (K : PySem.W.Frag) (C : Addr) : Sp := fun vs H Q E => ∃ (a b : Addr) (cs r : List Int), vs = [.ref a, .ref b] ∧ SqQ K H a (iv cs) ∧ SqT K H b (iv r) ∧ Cnt cs ∧ (¬ GoodR cs r → Flies C "badsetting" H E) ∧ (GoodR cs r → RetV (.int (nums cs r cs.length)) H Q)
theorem below_next {cs r : List Int} {i : Nat} {c d : Int} (h : Below cs r i) (hc : cs[i]? = some c) (hd : r[i]? = some d) (h1 : 0 ≤ d) (h2 : d < c) : Below cs r (i + 1) := fun k c' d' hk hc' hd' => by
  by_cases e : k = i
  · subst e
    rw [hc] at hc'
    rw [hd] at hd'
    cases hc'
    cases hd'
    exact ⟨h1, h2⟩
  · exact h k c' d' (by omega) hc' hd'
section
variable {P : Program} {w : World} {K : PySem.W.Frag} {mg : Str → Option Value} {base : Heap} {f C : Addr} {fd : FuncData}
abbrev sNum : Stmt := top 54
theorem scNum : FnScope ["counts", "row", "place", "count", "number"] ["counts", "row"] (defScope sNum) := ⟨rfl, rfl, rfl, by decide +kernel, rfl, by decide +kernel, by decide +kernel⟩
theorem ok_num (F : FnP K "row_number" sNum f fd) (Er_BadSetting : ErrF P w K mg base 1 "BadSetting" C "badsetting") (g_zip : mg "zip" = none) (g_len : mg "len" = none) :
    FnOk P w K mg base (L2.CX P w) 3 f fd ["counts", "row"] (spNum K C) := by
  have nd := scNum.nd
  refine F.ok scNum (fun vs H Q E h => ?_) (fun cdv A outer s H vs Q E hr h => ⟨_, (pss_cons (ps_if (pt_cmpR op_ne (pe_callB (r := Evl.rLenS K) call_len_seq (by rfl) g_len PySem.boot_len (pa_cons (pv 1) pa_nil)) (pe_callB (r := Evl.rLenS K) call_len_seq (by rfl) g_len PySem.boot_len (pa_cons (pv 0) pa_nil)) (nomark _)) (pss_one (ps_raise rfl (takes_of rfl rfl rfl rfl) (Hs.pmk_err Er_BadSetting hr (by decide) (by rfl)))) pss_nil)
  (pss_cons (ps_set (i := 2) nd rfl (.inl rfl) pe_int)
  (pss_cons (ps_for (passes_of rfl) rfl (Hs.pi_zipQ (by rfl) g_zip (pa_cons (pv 0) (pa_cons (pv 1) pa_nil))) (pg_tup rfl (pgs_cons (pg_name (i := 3) nd rfl (.inl rfl)) (pgs_cons (pg_name (i := 4) nd rfl (.inl rfl)) pgs_nil))) (pss_cons (ps_if (PW.pt (pw_or (pt_cmpR op_lt (pv 4) pe_int (nomark _)) (pw_or1 (pt_cmpR op_ge (pv 4) (pv 3) (nomark _))))) (pss_one (ps_raise rfl (takes_of rfl rfl rfl rfl) (Hs.pmk_err Er_BadSetting hr (by decide) (by rfl)))) pss_nil)
  (pss_one (ps_set (i := 2) nd rfl (.inl rfl) (pe_op op_add (pe_op op_mulW (pv 2) (pv 3)) (pv 4))))))
  (pss_one (ps_ret (pv 2)))))), ?_⟩)
  · obtain ⟨a, b, cs, r, rfl, _⟩ := h
    rfl
  · obtain ⟨a, b, cs, r, rfl, hS, hR, hC, kE, k⟩ := h
    refine q_when (et_test (ev_op (ev_lenQ (ev_var rfl) (.inr hR)) (ev_lenQ (ev_var rfl) hS) (rv_ne rfl))) (fun ht H1 e1 => ?_) (fun ht H1 e1 => ?_)
    · refine (kE fun g => ?_).ext e1
      have g1 := g.1
      simp [g1] at ht
    · have hlen : r.length = cs.length := by
        simp at ht
        omega
      refine q_asg ev_c fun H2 e2 => ?_
      have e12 := e1.trans e2
      refine s_zipQ (D := { nx := _, rt := _ }) (ev_var rfl) (ev_var rfl) (hS.ext e12) (ex_t e12 hR) (by rw [List.length_map, List.length_map, hlen]) (fun i σ' H' => Ex H2 H' ∧ i ≤ cs.length ∧ Below cs r i ∧ ∃ v3 v4, σ' = [some (.ref a), some (.ref b), some (.int (nums cs r i)), v3, v4]) (fun H3 e3 => ⟨e3, Nat.zero_le _, fun k c d hk => absurd hk (Nat.not_lt_zero _), none, none, rfl⟩) (fun i σ' H' p => p.1) (fun i x y σ' H' H3 hx hy p e3 => ?_) (fun σ' H' p => ?_)
      · obtain ⟨e4, hi, hB, v3, v4, rfl⟩ := p
        obtain ⟨c, rfl, hc⟩ := iv_at hx
        obtain ⟨d, rfl, hd⟩ := iv_at hy
        have hil : i < cs.length := (List.getElem?_eq_some_iff.mp hc).1
        obtain ⟨c1, c2⟩ := hC.2 c (List.mem_of_getElem? hc)
        refine q_when (et_or (et_test (ev_op (ev_var rfl) ev_c rv_I0)) fun _ => et_test (ev_op (ev_var rfl) (ev_var rfl) rv_I0)) (fun ht H5 e5 => ?_) (fun ht H5 e5 => ?_)
        · refine (kE fun g => ?_).ext (((e12.trans e4).trans e3).trans e5)
          obtain ⟨d1, d2⟩ := g.2 i c d hil hc hd
          simp at ht
          omega
        · have hdd : 0 ≤ d ∧ d < c := by
            simp at ht
            omega
          obtain ⟨n1, n2⟩ := nums_bd (k := i) hC.2 (by omega) (by omega) hB
          have n3 := six_le (n := i) (by have := hC.1; omega)
          refine s_asg (ev_op (ev_op (ev_var rfl) (ev_var rfl) (rv_I (mul64 (by omega) (by omega)))) (ev_var rfl) rv_I0) fun H6 e6 => ⟨((e4.trans e3).trans e5).trans e6, hil, below_next hB hc hd hdd.1 hdd.2, some (.int c), some (.int d), ?_⟩
          show _ = [_, _, some (V.int (nums cs r i * cs.getD i 0 + r.getD i 0)), _, _]
          rw [List.getD_eq_getElem?_getD, List.getD_eq_getElem?_getD, hc, hd]
          rfl
      · obtain ⟨e4, hi, hB, v3, v4, rfl⟩ := p
        rw [List.length_map] at hB ⊢
        exact s_ret (ev_var rfl) fun H5 e5 => k ⟨hlen, hB⟩ H5 ((e12.trans e4).trans e5)
end
end Hs
namespace Hs
open PySem PySem.Spec PyProof.Rows L2
/-! ### {**d, k: v} -/
section
variable {prog : Program} {w : World} {K : Type} [DecidableEq K] {knd : KeyKind prog w K} {A : Around} {E : Value → Shared → Prop} {s : Shared}
theorem put_pairs {d : Addr} {kvs : List (K × Value)} {k : K} {key v : Value} {Q : Unit → Shared → Prop} (hkey : knd.is k key = true) (hm : s.heap.DictOf knd d kvs)
    (hQ : ∀ h', h'.DictOf knd d (stored kvs k v) → Heap.SameBut d s.heap h' → Q () { s with heap := h' }) (hsz : kvs.length ≤ sizeLine) :
    wpAny (model prog w) A (dictPut d (knd.hash k) key v) Q E s := by
  obtain ⟨o, es, ep, ho, hc, hd, hk, hp, hn⟩ := hm
  have hes : es.size ≤ sizeLine := by
    have e1 := hp.length
    have e2 : es.toList.length = es.size := by simp
    omega
  unfold dictPut
  refine wpAny_bind (wpAny_dictFind_of hkey ho hd hk ?_)
  have hidx : (es.findIdx? fun e => knd.is k e.key) = kvs.findIdx? fun kv => decide (kv.1 = k) := by
    rw [← hp.findIdx k]
    obtain ⟨l⟩ := es
    simp
  cases hi : es.findIdx? fun e => knd.is k e.key with
  | some i =>
    refine wpAny_updateDict ho hd (hQ _ ⟨_, _, ep, Heap.get?_update_self _ ho (Obj.isFreed_of_dict (Obj.data_mapDict hd _)), hc.mapDict _, Obj.data_mapDict hd _, hk.modify _ _, ?_, ?_⟩ (Heap.SameBut.update ..))
    · rw [stored, if_pos (any_of_findIdx_some (hidx ▸ hi))]
      have hl : (es.toList.findIdx? fun e => knd.is k e.key) = some i := by rw [← hi]; obtain ⟨l⟩ := es; simp
      have := hp.modify hn hl v
      obtain ⟨l⟩ := es
      simpa using this
    · rw [stored, if_pos (any_of_findIdx_some (hidx ▸ hi)), keys_map_store]
      exact hn
  | none =>
    have hnot : k ∉ kvs.map (·.1) := not_mem_of_findIdx_none (hidx ▸ hi)
    have hany : ¬ (kvs.any fun kv => decide (kv.1 = k)) = true := by
      rw [List.any_eq_true]
      rintro ⟨kv, hkv, he⟩
      exact hnot (List.mem_map.mpr ⟨kv, hkv, of_decide_eq_true he⟩)
    refine wpAny_updateDictKeys (hz := hes) ho hd (hQ _ ⟨_, _, ep + 1, Heap.get?_update_self _ ho (Obj.isFreed_of_dict (Obj.data_mapDictKeys hd _)), hc.mapDictKeys _, Obj.data_mapDictKeys hd _, hk.push hkey _, ?_, ?_⟩ (Heap.SameBut.update ..))
    · rw [stored, if_neg hany]
      have := hp.append hkey (knd.hash k) v
      obtain ⟨l⟩ := es
      simpa using this
    · rw [stored, if_neg hany, List.map_append, List.nodup_append]
      refine ⟨hn, by simp, ?_⟩
      intro a ha b hb
      simp only [List.map_cons, List.map_nil, List.mem_singleton] at hb
      subst hb
      exact fun e => hnot (e ▸ ha)
theorem merge_map {d o : Addr} {kvs more : List (K × Value)} {Q : Unit → Shared → Prop} (hdo : d ≠ o) (hoS : (o == sysModules) = false) (hd : s.heap.DictOf knd d kvs) (ho : s.heap.DictOf knd o more) (hnr : ∀ k key, knd.is k key = true → ∀ a, key ≠ .ref a)
    (hQ : ∀ h', h'.DictOf knd d (merged kvs more) → h'.DictOf knd o more → Heap.SameBut d s.heap h' → Q () { s with heap := h' }) (hsz : kvs.length + more.length ≤ sizeLine) :
    wpAny (model prog w) A (mergeMapping d (.ref o) false) Q E s := by
  obtain ⟨od, esd, epd, hod, hcd, hdd, hkd, hpd, hnd⟩ := id hd
  obtain ⟨oo, eso, epo, hoo, hco, hdo', hko, hpo, hno⟩ := id ho
  unfold mergeMapping
  refine wpAny_bind (wpAny_isInstance ho.typeIs isSubtype_dict_dict ?_)
  simp only [if_true]
  refine wpAny_bind (wpAny_specialOf ho.typeIs F.slot_dict_iter.lookup ?_)
  have hlen : more.length = eso.size := by rw [← hpo.length]; simp
  have loop : wpAny (model prog w) A (do
      let l ← dictEntries o
      let epoch ← dictEpoch o
      forIn (List.range l.size) PUnit.unit fun i (_ : PUnit) => (do
          let l' ← dictEntries o
          match l'[i]? with
            | some e => do
              holding [e.key, e.val] (dictPut d e.hash e.key e.val)
              let ep' ← dictEpoch o
              if (ep' != epoch) = true then do
                  (unsupported "dict.changed-during-merge" : Sem PUnit)
                  pure (ForInStep.yield PUnit.unit)
                else pure (ForInStep.yield PUnit.unit)
            | _ => do
              (unsupported "dict.changed-during-merge" : Sem PUnit)
              pure (ForInStep.yield PUnit.unit) : Sem (ForInStep PUnit))
      pure ()) Q E s := by
    refine wpAny_bind (wpAny_dictEntries hoo hdo' ?_)
    refine wpAny_bind (wpAny_dictEpoch hoo hdo' ?_)
    refine wpAny_bind ?_
    rw [List.range_eq_range']
    refine wpAny_forIn_list _
      (fun rest _ s' => ∃ h' i, s' = { s with heap := h' } ∧ rest = List.range' i (eso.size - i) ∧ i ≤ eso.size ∧ h'.DictOf knd d (merged kvs (more.take i)) ∧ h'.get? o = some oo ∧ Heap.SameBut d s.heap h')
      _ ?_ ?_ _ _ ⟨s.heap, 0, rfl, by simp, Nat.zero_le _, by simpa [merged] using hd, hoo, Heap.SameBut.refl _ _⟩
    · rintro x rest b s' ⟨h', i, rfl, hr, hi, hd', hoo', hs'⟩
      have hlt : i < eso.size := by
        rcases Nat.lt_or_ge i eso.size with h | h
        · exact h
        · rw [Nat.sub_eq_zero_of_le h] at hr; simp at hr
      obtain ⟨rfl, hrest⟩ : x = i ∧ rest = List.range' (i + 1) (eso.size - (i + 1)) := by
        have e : eso.size - i = (eso.size - (i + 1)) + 1 := by omega
        rw [e, List.range'_succ] at hr
        injection hr with h1 h2
        exact ⟨h1, h2⟩
      refine wpAny_bind (wpAny_dictEntries hoo' hdo' ?_)
      rw [Array.getElem?_eq_getElem hlt]
      obtain ⟨kv, hkv⟩ : ∃ kv, more[x]? = some kv := ⟨more[x]'(by rw [hlen]; exact hlt), List.getElem?_eq_getElem _⟩
      obtain ⟨k, v⟩ := kv
      obtain ⟨hkey, hval⟩ := hpo.get? (e := eso[x]) (by simp [hlt]) hkv
      obtain ⟨k', hkey', hhash⟩ := hko eso[x] (Array.getElem_mem hlt)
      obtain rfl : k' = k := knd.inj _ _ _ hkey' hkey
      show wpAny _ _ (holding [eso[x].key, eso[x].val] (dictPut d eso[x].hash eso[x].key eso[x].val) >>= _) _ _ _
      rw [hhash, hval]
      have hmx : (merged kvs (more.take x)).length ≤ sizeLine := by
        have e1 := merged_length_le kvs (more.take x)
        have e2 : (more.take x).length ≤ more.length := by rw [List.length_take]; omega
        omega
      refine wpAny_bind (wpAny_holding (put_pairs (hsz := hmx) hkey hd' fun h'' hd'' hs'' => ?_))
      have hoo'' : h''.get? o = some oo := (hs''.2 o (Ne.symm hdo)).trans hoo'
      refine wpAny_bind (wpAny_dictEpoch hoo'' hdo' ?_)
      rw [if_neg (by simp)]
      exact wpAny_pure ⟨h'', x + 1, rfl, hrest, hlt, by rw [merged_take_succ kvs more x (k', v) hkv]; exact hd'', hoo'', hs'.trans hs''⟩
    · rintro b s' ⟨h', i, rfl, hr, hi, hd', hoo', hs'⟩
      have hin : i = eso.size := by
        rcases Nat.lt_or_ge i eso.size with h | h
        · have e : eso.size - i = (eso.size - (i + 1)) + 1 := by omega
          rw [e, List.range'_succ] at hr; exact nomatch hr
        · exact Nat.le_antisymm hi h
      refine wpAny_pure (hQ h' ?_ ⟨oo, eso, epo, hoo', hco, hdo', hko, hpo, hno⟩ hs')
      rw [hin, ← hlen, List.take_length] at hd'; exact hd'
  refine wpAny_bind (wpAny_pure ?_)
  simp only [beq_self_eq_true]
  rw [if_neg (by rw [hoS]; exact Bool.false_ne_true)]
  refine wpAny_bind (wpAny_dictEntries hod hdd ?_)
  split
  · refine wpAny_bind (wpAny_dictEntries hoo hdo' ?_)
    refine wpAny_bind ?_
    rw [← Array.forIn_toList]
    refine wpAny_forIn_list _ (fun rest _ s' => s' = s ∧ ∀ e ∈ rest, e ∈ eso.toList) _ ?_ ?_ _ _ ⟨rfl, fun e he => he⟩
    · rintro e rest b s' ⟨rfl, hr⟩
      have he := hr e (List.mem_cons_self ..)
      obtain ⟨k', hkey', hhash⟩ := hko e (Array.mem_toList_iff.mp he)
      have hne := hnr _ _ hkey'
      split
      · rename_i a ha
        exact absurd ha (hne a)
      · exact wpAny_pure ⟨rfl, fun e he => hr e (List.mem_cons_of_mem _ he)⟩
    · rintro b s' ⟨rfl, _⟩
      exact loop
  · exact loop
end
end Hs
namespace Hs
open PySem PySem.Spec PyProof.Rows L2
section
variable {prog : Program} {w : World} {A : Around} {E : Value → Shared → Prop} {s : Shared}
/-- {**d, k: v}: what runs -/
theorem display_star {dt kt vt : Sem Value} {Q : Value → Shared → Prop}
    (h : wpAny (model prog w) A dt (fun m s1 => wpAny (model prog w) A (mergeMapping s.heap.objs.size m false) (fun _ s2 => wpAny (model prog w) A (subDict [(kt, vt)]) (fun q s3 => wpAny (model prog w) A (mergeMapping s.heap.objs.size (.ref q) false) (fun _ s4 => Q (.ref s.heap.objs.size) s4) (fun _ _ => False) s3) E s2) (fun _ _ => False) s1) E { s with heap := s.heap.push { cls := .type "dict", data := .dict #[] } }) :
    wpAny (model prog w) A (dictDisplay [(none, dt), (some kt, vt)]) Q E s := by
  unfold dictDisplay
  simp only [List.forIn_cons, List.forIn_nil, bind_assoc, pure_bind, List.isEmpty_nil, if_true, List.nil_append, List.length_cons, List.length_nil, List.isEmpty_cons]
  refine wpAny_bind (wpAny_alloc ?_)
  refine wpAny_bind (wpAny_holding (wpAny_mono h (fun m s1 h1 => ?_) fun _ _ e => e))
  refine wpAny_bind (wpAny_onRaise (wpAny_tryCatch (wpAny_onRaise (wpAny_holding (wpAny_mono h1 (fun _ s2 h2 => ?_) fun _ _ z => z.elim)))))
  rw [if_neg (by decide)]
  refine wpAny_bind (wpAny_pure ?_)
  refine wpAny_bind (wpAny_pure ?_)
  refine wpAny_bind ?_
  rw [if_neg (by simp)]
  refine wpAny_bind (wpAny_holding (wpAny_mono h2 (fun q s3 h3 => ?_) fun _ _ e => e))
  refine wpAny_bind (wpAny_onRaise (wpAny_holding (wpAny_mono h3 (fun _ s4 h4 => ?_) fun _ _ z => z.elim)))
  exact wpAny_pure (wpAny_pure h4)
end
/-- {**d, k: v}: the new dict p stands empty while d is read; q, that of the pair, stays behind -/
def tDStar (td tk tv : TE) : TE := fun σ H Q => ∀ p, H p = none → td σ (upd H p (.dK [])) fun x H1 => ∃ (a : Addr) (kvs : List (Key × V)), x = .ref a ∧ Rd H1 a (.dK kvs) ∧ H1 p = some (.dK []) ∧ a ≠ p ∧ kvs.length ≤ 10000 ∧
  ∀ q, upd H1 p (.dK kvs) q = none → tk σ (upd (upd H1 p (.dK kvs)) q (.dK [])) fun y H2 => tv σ H2 fun z H3 => ∃ key : Key, y = kV key ∧ H3 q = some (.dK []) ∧ H3 p = some (.dK kvs) ∧ p ≠ q ∧ Q (.ref p) (upd (upd H3 q (.dK [(key, z)])) p (.dK (putK kvs key z)))
theorem pe_dstar {X : Cx} {d k v : Expr} {td tk tv : TE} {pos : Pos} (hd : PE X d td) (hk : PE X k tk) (hv : PE X v tv) : PE X (.Dict [none, some k] [d, v] pos) (tDStar td tk tv) := by
  refine ⟨fun pins s σ H Q I h => ?_⟩
  have hn := I.hok.fresh (Nat.le_refl s.heap.objs.size)
  have I1 := I.laid (a := s.heap.objs.size) (o := .dK []) (h' := s.heap.push { cls := .type "dict", data := .dict #[] }) (t' := s.toks) (fun _ _ q => Heap.get?_push_of_some _ q) (Nat.le_refl _) (dk_empty s.heap I.big)
  have nr : ∀ (k : Key) (key : Value), (mixKind X.prog X.w).is k key = true → ∀ a, key ≠ .ref a := fun k key hk a e => by
    rcases keyIs_shape hk with ⟨i, t, rfl, rfl⟩ | ⟨x, t, rfl, rfl⟩ <;> cases e
  rw [arm_eval_Dict]
  refine wpAny_bind (wpAny_standAt ?_)
  show wpAny _ _ (dictDisplay [(none, do let x ← eval d X.env; standAt pos; pure x), (some (eval k X.env), do let x ← eval v X.env; standAt pos; pure x)]) _ _ _
  refine display_star (wpAny_bind (thn (hd.run pins _ σ _ _ I1 (h _ hn)) fun u s2 ⟨x, H1, I2, r1, a, kvs, ex, hr, hp, nap, hz, q1⟩ => wpAny_bind (wpAny_standAt (wpAny_pure ?_))))
  subst ex
  obtain rfl : u = Value.ref a := r1
  obtain ⟨z1, hda, vs1, rv1, dd1⟩ := dk_rd I2.hok hr
  obtain ⟨z2, hdp, vs2, rv2, dd2⟩ := dk_of I2.hok hp
  cases rv2
  have hnod : (vs1.map (·.1)).Nodup := by
    obtain ⟨_, _, _, _, _, _, _, _, hn⟩ := id dd1
    exact hn
  have lv1 : vs1.length = kvs.length := (KV.length rv1).symm
  have hsl : (10001 : Nat) ≤ sizeLine := by rw [sizeLine_eq]; decide
  refine merge_map (knd := mixKind X.prog X.w) (Ne.symm nap) hda dd2 dd1 nr (fun h1 dp da sb => ?_) (by rw [List.length_nil]; omega)
  rw [merged_nil_of_nodup vs1 hnod] at dp
  have I3 : Inv X pins σ (upd H1 s.heap.objs.size (.dK kvs)) { s2 with heap := h1 } := d_write I2 (by rw [hp]; exact True.intro) sb (let ⟨q, _, _, hq, _⟩ := dp; ⟨q, hq⟩) (dk_new z1 hdp rv1 dp)
  have hnq := I3.hok.fresh (Nat.le_refl h1.objs.size)
  have I4 := I3.laid (a := h1.objs.size) (o := .dK []) (h' := h1.push { cls := .type "dict", data := .dict #[] }) (t' := s2.toks) (fun _ _ q => Heap.get?_push_of_some _ q) (Nat.le_refl _) (dk_empty h1 I3.big)
  refine wpAny_subDict (knd := mixKind X.prog X.w) (by simp) (evalPairs_cons (thn (hk.run pins _ σ _ _ I4 (q1 _ hnq)) fun ku s3 ⟨y, H2, I5, r2, q2⟩ => wpAny_bind (thn (hv.run pins s3 σ H2 _ I5 q2) fun vu s4 ⟨z, H3, I6, r3, key, ey, hq3, hp3, npq, q3⟩ => wpAny_bind (wpAny_standAt (wpAny_pure (evalPairs_nil ?_))))))
  subst ey
  obtain ⟨z5, hdq, vs5, rv5, dd5⟩ := dk_of I6.hok hq3
  cases rv5
  refine ⟨[(key, vu)], ⟨kV_is r2, rfl, True.intro⟩, dd5, fun h2 dq sb2 => ?_⟩
  have I7 : Inv X pins σ (upd H3 h1.objs.size (.dK [(key, z)])) { s4 with heap := h2, toks := s4.toks + 1 } := d_write I6 (by rw [hq3]; exact True.intro) sb2 (let ⟨q, _, _, hq, _⟩ := dq; ⟨q, hq⟩) (dk_new (by simp; omega) hdq (.cons ⟨rfl, r3⟩ .nil) dq)
  have hp7 : upd H3 h1.objs.size (.dK [(key, z)]) s.heap.objs.size = some (.dK kvs) := by rw [upd_ne npq]; exact hp3
  obtain ⟨z7, hdp7, vs7, rv7, dd7⟩ := dk_of I7.hok hp7
  have lv7 : vs7.length = kvs.length := (KV.length rv7).symm
  refine merge_map (knd := mixKind X.prog X.w) npq hdq dd7 dq nr (fun h3 dp3 dq3 sb3 => ?_) (by simp only [merged, List.foldl_cons, List.foldl_nil, stored, List.any_nil]; simp; omega)
  refine ⟨.ref s.heap.objs.size, _, ?_, rfl, q3⟩
  exact d_write (t' := s4.toks + 1) I7 (by rw [hp7]; exact True.intro) sb3 (let ⟨q, _, _, hq, _⟩ := dp3; ⟨q, hq⟩) (dk_new (by have := length_putK kvs key z; omega) hdp7 (rv7.put key r3) dp3)
end Hs
namespace Hs
open PySem PySem.Spec PyProof.Rows L2
/-! ### x(e, .., *y), x a local name that holds one of several defs -/
structure HeldX (P : Program) (w : World) (K : PySem.W.Frag) (mg : Str → Option Value) (base : Heap) (k : Nat) (f : Addr) (sp : Sp) : Prop where
  ex : ∃ (fd : FuncData) (ps : List Str), FnOk P w K mg base (L2.CX P w) k f fd ps sp ∧ PySem.W.keepIn K (.ref f) = true ∧ Binds K fd ps []
def tCallAS (i : Nat) (S : Addr → Option Sp) (E : XK) (t : TA) : TE := fun σ H Q => ∃ f sp, σ[i]? = some (some (.ref f)) ∧ S f = some sp ∧ t σ H fun vs H1 => sp vs H1 Q E
theorem pe_callAS {X : Cx} {k j i : Nat} {x : Str} {E : XK} {e : Expr} {es : List Expr} {t : TA} {p pos : Pos} {S : Addr → Option Sp} (A : ∀ f sp, S f = some sp → HeldX X.prog X.w X.K X.mg X.base k f sp) (hr : Room j X.A) (hkj : k ≤ j) (hN : X.N[i]? = some x) (hv : Vis X.env.scope x) (hx : Passes (L2.CX X.prog X.w) X E) (ha : PA X (e :: es) t)
    (hdb : (x == ("__debug__" : Str)) = false := by decide) (hcd : (x == ("__classdict__" : Str)) = false := by decide)
    (he : starEach (e :: es) X.env = (false, eval e X.env) :: starEach es X.env := by rfl) (hst : (backTo pos (starEach es X.env)).any (·.1) = true := by rfl) : PE X (.Call (.Name x p) (e :: es) [] pos) (tCallAS i S E t) := by
  refine ⟨fun pins s σ H Q I h => ?_⟩
  obtain ⟨f, sp, hs, hS, ht⟩ := h
  obtain ⟨fd, ps, F, hk, hb⟩ := (A f sp hS).ex
  refine wpAny_Call_Name_kw (thn ((pe_var (pos := p) hN hv hdb hcd).run pins s σ H (fun v H1 => v = .ref f ∧ H1 = H) I ⟨.ref f, hs, rfl, rfl⟩) fun u s1 ⟨v, H1, I1, r1, q1⟩ => ?_)
  obtain ⟨rfl, rfl⟩ := q1
  cases r1
  refine PySem.W.callWith_S2 (h₀ := X.base) I.ok.mod.kin hk (thn (ha.run pos pins s1 σ _ _ I1 ht) fun us s2 ⟨vs, H2, I2, r, q⟩ => ⟨I2.kIn, ?_⟩) he hst
  refine run_fn F (hr.mono hkj) hb .nil hx I2 r ?_
  rw [List.append_nil]
  exact q
end Hs
namespace Hs
open PySem PySem.Spec PyProof.Rows L2
/-! ### o.m(e, .., k = v, ..), o an instance of an own class -/
def tMethN (C : Addr) (m : Str) (n l : Nat) (sp : Sp) (gV : List V → List V → List V) (E : XK) (ta : TE) (t tk : TA) : TE := fun σ H Q => ta σ H fun x H1 => ∃ a dx fs, x = .ref a ∧ H1 a = some (.ins C dx fs) ∧ fs.lookup m = none ∧
  t σ H1 fun vs H2 => tk σ H2 fun zs H3 => (V.ref a :: vs).length = n ∧ zs.length = l ∧ sp (gV (V.ref a :: vs) zs) H3 Q E
theorem pe_methN {X : Cx} {CX : CXT} {k n : Nat} {f C : Addr} {fd : FuncData} {ps ks : List Str} {sp : Sp} {E : XK} {m : Str} {pos apos : Pos} {e o : Expr} {es : List Expr} {kws : List Keyword} {ta : TE} {t tk : TA} {g : List Value → List Value → List Value} {gV : List V → List V → List V} {pl : Sem Bool}
    (he : PE X o ta) (c : Cls X.K C) (hm : Meth X.K C m f) (F : FnOk X.prog X.w X.K X.mg X.base CX k f fd ps sp) (hr : Room k X.A) (hb : KBn X.K fd ps n ks g gV) (hx : Passes CX X E) (ha : PA X (e :: es) t) (hkw : PK X kws tk)
    (hall : (backToKw pos (keywordEach kws X.env)).all (·.1.isSome) = true := by rfl) (hks : (backToKw pos (keywordEach kws X.env)).filterMap (·.1) = ks := by rfl) (hst : starEach (e :: es) X.env = (false, eval e X.env) :: starEach es X.env := by rfl)
    (hpl : ((backTo pos (starEach (e :: es) X.env)).any (·.1) || (backToKw pos (keywordEach kws X.env)).any (·.1.isNone)) = false := by rfl)
    (ht : eval (.Call (.Attribute o m apos) (e :: es) kws pos) X.env = (do
      let ov ← eval o X.env
      standAt apos.atName
      let (f, first) ← holding [ov] (getMethod ov m pl)
      callWith pos f first (backTo pos (starEach (e :: es) X.env)) (backToKw pos (keywordEach kws X.env))) := by rfl) :
    PE X (.Call (.Attribute o m apos) (e :: es) kws pos) (tMethN C m n ks.length sp gV E ta t tk) := by
  refine ⟨fun pins s σ H Q I h => ?_⟩
  refine PySem.W.methodCall_KW (pl := pl) (thn (he.run pins s σ H _ I h) fun u s1 ⟨x, H1, I1, rx, a, dx, fs, ex, ea, l, q⟩ => ?_) ht
  subst ex
  obtain rfl : u = Value.ref a := rx
  refine getmeth_ok I1 ea c hm l ?_
  refine PySem.W.callWith_KW (first := [.ref a]) (h₀ := X.base) I.ok.mod.kin hm.kp hall (thn (ha.run pos pins s1 σ H1 _ I1 q) fun us s2 ⟨vs, H2, I2, r, q2⟩ => ?_) hpl hst
  refine thn (hkw.run pos pins s2 σ H2 _ I2 q2) fun ws s3 ⟨zs, H3, I3, rz, l1, l2, q3⟩ => ⟨I3.kIn, ?_⟩
  rw [hks]
  exact run_fnN (us := .ref a :: us) (vs := .ref a :: vs) F hr hb hx I3 (.cons rfl r) rz l1 l2 q3
end Hs
namespace Hs
open PySem PySem.Spec PyProof.Rows L2
theorem un1 {k : Nat} {A : Around} (r : Room k A) : A.units + 1 < cLine := by
  have := r.un
  omega
/-! ### what is made and never changed again: known as it stands from its birth -/
def tFrz (t : TE) : TE := fun σ H Q => t σ H fun v H1 => ∃ d u, v = .ref d ∧ H1 d = some u ∧ Mut (some u) ∧ ∀ od, Q v (upd H1 d (.frz od u))
theorem pe_frz {X : Cx} {e : Expr} {t : TE} (h : PE X e t) : PE X e (tFrz t) := ⟨fun pins s σ H Q I q => thn (h.run pins s σ H _ I q) fun _ s1 ⟨x, H1, I1, r, d, u, ex, hd, mu, k⟩ => by
  obtain ⟨od, I2⟩ := I1.lock hd mu
  exact ⟨x, _, I2, r, k od⟩⟩
/-- a dict that stands so -/
def Fz (H : Hp) (a : Addr) (kvs : List (Key × V)) : Prop := ∃ od, H a = some (.frz od (.dK kvs))
theorem Fz.ext {H H' : Hp} {a : Addr} {kvs : List (Key × V)} (h : Fz H a kvs) (e : Evl.Ex H H') : Fz H' a kvs := let ⟨od, h⟩ := h; ⟨od, e _ _ h⟩
theorem Fz.rd {H : Hp} {a : Addr} {kvs : List (Key × V)} (h : Fz H a kvs) : Rd H a (.dK kvs) := .inr h
theorem Fz.get {H : Hp} {a : Addr} {kvs : List (Key × V)} (h : Fz H a kvs) {k : Key} : DGet H a (kV k) (valV kvs k) := .inl ⟨kvs, k, h.rd, rfl, rfl⟩
/-- {**d, k: v}, frozen at once -/
theorem eu_dstar {td tk tv : TE} {σ : L2.St} {H : Hp} {a : Addr} {kvs : List (Key × V)} {key : Key} {z : V} (h1 : Evl.Ev td σ H (.ref a)) (hk : Evl.Ev tk σ H (kV key)) (hv : Evl.Ev tv σ H z) (ha : Fz H a kvs) (hz : kvs.length ≤ 10000) :
    ∀ H1, Evl.Ex H H1 → ∀ Q : VK, (∀ p H2, H1 p = none → Evl.Ex H1 H2 → Fz H2 p (putK kvs key z) → Q (.ref p) H2) → tFrz (tDStar td tk tv) σ H1 Q := fun H1 e Q q => by
  intro p hp
  have x1 := Evl.Ex.new (o := .dK []) hp
  refine h1 _ (e.trans x1) _ fun H2 e2 => ⟨a, kvs, rfl, (ha.ext ((e.trans x1).trans e2)).rd, e2 _ _ upd_same, fun z => ?_, hz, fun q' hq' => ?_⟩
  · obtain ⟨od, ho⟩ := ha.ext e
    rw [z, hp] at ho
    cases ho
  · have ex2 : Evl.Ex H1 (upd H2 p (.dK kvs)) := Evl.Ex.mut (x1.trans e2) hp
    have xq := Evl.Ex.new (o := .dK []) hq'
    have npq : p ≠ q' := fun z => by
      rw [← z, upd_same] at hq'
      cases hq'
    refine hk _ ((e.trans ex2).trans xq) _ fun H3 e3 => hv _ (((e.trans ex2).trans xq).trans e3) _ fun H4 e4 => ⟨key, rfl, (e3.trans e4) _ _ upd_same, (e3.trans e4) _ _ (xq _ _ upd_same), npq, p, _, rfl, upd_same, True.intro, fun od => ?_⟩
    have e14 := ((ex2.trans xq).trans e3).trans e4
    have nq1 : H1 q' = none := Evl.fresh_back ex2 hq'
    refine q p _ hp ?_ ⟨od, upd_same⟩
    exact Evl.Ex.mut (Evl.Ex.mut (Evl.Ex.mut e14 nq1) hp) hp
/-- all but dicts in the making stays -/
def ExF (H H' : Hp) : Prop := ∀ b o, H b = some o → (∀ kvs, o ≠ .dK kvs) → H' b = some o
theorem Fz.extF {H H' : Hp} {a : Addr} {kvs : List (Key × V)} (h : Fz H a kvs) (e : ExF H H') : Fz H' a kvs := let ⟨od, h⟩ := h; ⟨od, e _ _ h (fun _ z => by cases z)⟩
/-- {**d, k: v}, v made on the way -/
theorem eu_dstarG {td tk tv : TE} {σ : L2.St} {H : Hp} {a : Addr} {kvs : List (Key × V)} {key : Key} {G : V → Hp → Prop} (h1 : Evl.Ev td σ H (.ref a)) (hk : Evl.Ev tk σ H (kV key)) (hv : ∀ H1, Evl.Ex H H1 → ∀ Q : VK, (∀ z H2, Evl.Ex H1 H2 → G z H2 → Q z H2) → tv σ H1 Q)
    (hG : ∀ z H2 H3, G z H2 → ExF H2 H3 → G z H3) (ha : Fz H a kvs) (hz : kvs.length ≤ 10000) :
    ∀ H1, Evl.Ex H H1 → ∀ Q : VK, (∀ p z H2, H1 p = none → Evl.Ex H1 H2 → G z H2 → Fz H2 p (putK kvs key z) → Q (.ref p) H2) → tFrz (tDStar td tk tv) σ H1 Q := fun H1 e Q q => by
  intro p hp
  have x1 := Evl.Ex.new (o := .dK []) hp
  refine h1 _ (e.trans x1) _ fun H2 e2 => ⟨a, kvs, rfl, (ha.ext ((e.trans x1).trans e2)).rd, e2 _ _ upd_same, fun z => ?_, hz, fun q' hq' => ?_⟩
  · obtain ⟨od, ho⟩ := ha.ext e
    rw [z, hp] at ho
    cases ho
  · have ex2 : Evl.Ex H1 (upd H2 p (.dK kvs)) := Evl.Ex.mut (x1.trans e2) hp
    have xq := Evl.Ex.new (o := .dK []) hq'
    have npq : p ≠ q' := fun z => by
      rw [← z, upd_same] at hq'
      cases hq'
    refine hk _ ((e.trans ex2).trans xq) _ fun H3 e3 => hv _ (((e.trans ex2).trans xq).trans e3) _ fun z H4 e4 g4 => ?_
    have hq4 := (e3.trans e4) q' _ (upd_same (H := upd H2 p (.dK kvs)) (a := q') (o := .dK []))
    have hp4 := (e3.trans e4) p _ (xq _ _ (upd_same (H := H2) (a := p) (o := .dK kvs)))
    refine ⟨key, rfl, hq4, hp4, npq, p, _, rfl, upd_same, True.intro, fun od => ?_⟩
    have e14 := ((ex2.trans xq).trans e3).trans e4
    have nq1 : H1 q' = none := Evl.fresh_back ex2 hq'
    refine q p z _ hp (Evl.Ex.mut (Evl.Ex.mut (Evl.Ex.mut e14 nq1) hp) hp) (hG z H4 _ g4 fun b o hb hn => ?_) ⟨od, upd_same⟩
    have nb : b ≠ p := fun w => by
      rw [w, hp4] at hb
      cases hb
      exact hn _ rfl
    have nq : b ≠ q' := fun w => by
      rw [w, hq4] at hb
      cases hb
      exact hn _ rfl
    rw [upd_ne nb, upd_ne nb, upd_ne nq]
    exact hb
end Hs
namespace Hs
open PySem PySem.Spec PyProof.Rows L2 Evl
/-! ### min of a tuple of numbers -/
def rMinT (K : PySem.W.Frag) : List V → Hp → VK → Prop := fun vs H Q => ∃ (a : Addr) (ns : List Int), vs = [V.ref a] ∧ SqT K H a (ns.map V.int) ∧ 0 < ns.length ∧ ∀ m, m ∈ ns → (∀ y, y ∈ ns → m ≤ y) → Q (.int m) H
theorem minOf_mem : ∀ (xs : List Int) (x : Int), PySem.W.minOf x xs ∈ x :: xs ∧ ∀ y ∈ x :: xs, PySem.W.minOf x xs ≤ y := by
  intro xs
  induction xs with
  | nil =>
    intro x
    exact ⟨List.mem_singleton.mpr rfl, fun y hy => by rw [List.mem_singleton.mp hy]; exact Int.le_refl _⟩
  | cons z zs ih =>
    intro x
    have e : PySem.W.minOf x (z :: zs) = PySem.W.minOf (if decide (z < x) = true then z else x) zs := rfl
    obtain ⟨h1, h2⟩ := ih (if decide (z < x) = true then z else x)
    rw [e]
    generalize PySem.W.minOf (if decide (z < x) = true then z else x) zs = m at h1 h2 ⊢
    have h3 := h2 _ (List.mem_cons_self ..)
    refine ⟨?_, fun y hy => ?_⟩
    · rcases List.mem_cons.mp h1 with q | q
      · rw [q]
        split
        · exact List.mem_cons_of_mem _ (List.mem_cons_self ..)
        · exact List.mem_cons_self ..
      · exact List.mem_cons_of_mem _ (List.mem_cons_of_mem _ q)
    · have h4 : m ≤ x ∧ m ≤ z := by
        split at h3
        · rename_i q
          have := of_decide_eq_true q
          omega
        · rename_i q
          have : ¬ z < x := fun w => q (decide_eq_true w)
          omega
      rcases List.mem_cons.mp hy with q | q
      · rw [q]
        exact h4.1
      · rcases List.mem_cons.mp q with q | q
        · rw [q]
          exact h4.2
        · exact h2 y (List.mem_cons_of_mem _ q)
theorem hold_ints {h : Heap} : ∀ {ns : List Int} {its : List Value}, Vals (ns.map V.int) its → PySem.W.HoldAll h its ns
  | [], _, r => by
    cases r
    exact .nil
  | n :: ns, _, r => by
    cases r with
    | cons r rr =>
      obtain ⟨t, rfl⟩ := r
      exact .cons (PySem.W.holds_int n t) (hold_ints rr)
theorem cr_minT {X : Cx} {k : Nat} (hc : X.calm = true) (hr : Room k X.A) : CallR X (.builtin "min") (rMinT X.K) := by
  intro pins s σ H vs us Q I r h
  obtain ⟨a, ns, rfl, hs, hne, q⟩ := h
  obtain ⟨its, rv, hl, _⟩ := I.tuple hs
  rw [Vals.ref1 r]
  cases ns with
  | nil => cases hne
  | cons x xs =>
    refine PySem.W.min_tuple_datum (x := x) (xs := xs) (I.ok.hd hc) (show s.heap.IsTuple a its.toArray from hl) (by simpa using hold_ints rv) ?_ fun i v h' tk hv hh hk => ?_
    · have := hr.un
      show X.A.units + 1 + 0 < _
      omega
    · obtain ⟨t, rfl⟩ := PySem.W.int_of_holds hh
      obtain ⟨m1, m2⟩ := minOf_mem xs x
      exact ⟨.int _, H, I.kept hk, ⟨_, rfl⟩, q _ m1 m2⟩
theorem rc_minT {K : PySem.W.Frag} {H : Hp} {a : Addr} {ns : List Int} (h : SqT K H a (ns.map V.int)) (hn : 0 < ns.length) : ∃ m, m ∈ ns ∧ (∀ y, y ∈ ns → m ≤ y) ∧ RC (rMinT K) [.ref a] H (.int m) := by
  cases ns with
  | nil => cases hn
  | cons x xs =>
    obtain ⟨m1, m2⟩ := minOf_mem xs x
    refine ⟨_, m1, m2, fun H1 e Q q => ⟨a, _, rfl, ex_t e h, hn, fun m h1 h2 => ?_⟩⟩
    have e : m = PySem.W.minOf x xs := Int.le_antisymm (h2 _ m1) (m2 _ h1)
    rw [e]
    exact q H1 (Ex.refl H1)
end Hs
namespace Hs
open PySem PySem.Spec PyProof.Rows L2 Evl
/-! ### max of a tuple of numbers -/
def rMaxT (K : PySem.W.Frag) : List V → Hp → VK → Prop := fun vs H Q => ∃ (a : Addr) (ns : List Int), vs = [V.ref a] ∧ SqT K H a (ns.map V.int) ∧ 0 < ns.length ∧ ∀ m, m ∈ ns → (∀ y, y ∈ ns → y ≤ m) → Q (.int m) H
theorem maxOf_mem : ∀ (xs : List Int) (x : Int), PySem.W.maxOf x xs ∈ x :: xs ∧ ∀ y ∈ x :: xs, y ≤ PySem.W.maxOf x xs := by
  intro xs
  induction xs with
  | nil =>
    intro x
    exact ⟨List.mem_singleton.mpr rfl, fun y hy => by rw [List.mem_singleton.mp hy]; exact Int.le_refl _⟩
  | cons z zs ih =>
    intro x
    have e : PySem.W.maxOf x (z :: zs) = PySem.W.maxOf (if decide (x < z) = true then z else x) zs := rfl
    obtain ⟨h1, h2⟩ := ih (if decide (x < z) = true then z else x)
    rw [e]
    generalize PySem.W.maxOf (if decide (x < z) = true then z else x) zs = m at h1 h2 ⊢
    have h3 := h2 _ (List.mem_cons_self ..)
    refine ⟨?_, fun y hy => ?_⟩
    · rcases List.mem_cons.mp h1 with q | q
      · rw [q]
        split
        · exact List.mem_cons_of_mem _ (List.mem_cons_self ..)
        · exact List.mem_cons_self ..
      · exact List.mem_cons_of_mem _ (List.mem_cons_of_mem _ q)
    · have h4 : x ≤ m ∧ z ≤ m := by
        split at h3
        · rename_i q
          have := of_decide_eq_true q
          omega
        · rename_i q
          have : ¬ x < z := fun w => q (decide_eq_true w)
          omega
      rcases List.mem_cons.mp hy with q | q
      · rw [q]
        exact h4.1
      · rcases List.mem_cons.mp q with q | q
        · rw [q]
          exact h4.2
        · exact h2 y (List.mem_cons_of_mem _ q)
theorem cr_maxT {X : Cx} {k : Nat} (hc : X.calm = true) (hr : Room k X.A) : CallR X (.builtin "max") (rMaxT X.K) := by
  intro pins s σ H vs us Q I r h
  obtain ⟨a, ns, rfl, hs, hne, q⟩ := h
  obtain ⟨its, rv, hl, _⟩ := I.tuple hs
  rw [Vals.ref1 r]
  cases ns with
  | nil => cases hne
  | cons x xs =>
    refine PySem.W.max_tuple_datum (x := x) (xs := xs) (I.ok.hd hc) (show s.heap.IsTuple a its.toArray from hl) (by simpa using hold_ints rv) ?_ fun i v h' tk hv hh hk => ?_
    · have := hr.un
      show X.A.units + 1 + 0 < _
      omega
    · obtain ⟨t, rfl⟩ := PySem.W.int_of_holds hh
      obtain ⟨m1, m2⟩ := maxOf_mem xs x
      exact ⟨.int _, H, I.kept hk, ⟨_, rfl⟩, q _ m1 m2⟩
theorem rc_maxT {K : PySem.W.Frag} {H : Hp} {a : Addr} {ns : List Int} (h : SqT K H a (ns.map V.int)) (hn : 0 < ns.length) : ∃ m, m ∈ ns ∧ (∀ y, y ∈ ns → y ≤ m) ∧ RC (rMaxT K) [.ref a] H (.int m) := by
  cases ns with
  | nil => cases hn
  | cons x xs =>
    obtain ⟨m1, m2⟩ := maxOf_mem xs x
    refine ⟨_, m1, m2, fun H1 e Q q => ⟨a, _, rfl, ex_t e h, hn, fun m h1 h2 => ?_⟩⟩
    have e : m = PySem.W.maxOf x xs := Int.le_antisymm (m2 _ h1) (h2 _ m1)
    rw [e]
    exact q H1 (Ex.refl H1)
end Hs
namespace Hs
open PySem PySem.Spec PyProof.Rows L2 Evl
def rLenF : List V → Hp → VK → Prop := fun xs H Q => ∃ a kvs, xs = [V.ref a] ∧ Rd H a (.dK kvs) ∧ Q (.int (List.length (α := Key × V) kvs)) H
theorem call_lenF {X : Cx} : CallR X (.builtin "len") rLenF := by
  intro pins s σ H xs us Q I r h
  obtain ⟨a, kvs, rfl, hr, q⟩ := h
  obtain ⟨u, rfl, ru⟩ := vals1 r
  obtain rfl : u = Value.ref a := ru
  exact d_len I hr fun t s' I' => ⟨.int kvs.length, H, I', ⟨t, rfl⟩, q⟩
section
variable {K : PySem.W.Frag} {σ : L2.St} {H : Hp} {t : TT} {te : TE}
theorem el_lcT {a : Addr} {xs : List V} {tl : TE} {j : Nat} {vs : List Nat} (f : Nat → Bool) (v : Nat → V) (h : Ev tl σ H (.ref a)) (hx : SqT K H a xs) (hz : xs.length ≤ 40000) (hw : ∀ x, wipe ((wipe σ vs).set j (some x)) vs = wipe σ vs)
    (ht : ∀ (i : Nat) (x : V) H1, Ex H H1 → xs[i]? = some x → EvT t ((wipe σ vs).set j (some x)) H1 (f i)) (he : ∀ (i : Nat) (x : V) H1, Ex H H1 → xs[i]? = some x → f i = true → Ev te ((wipe σ vs).set j (some x)) H1 (v i)) :
    EvL (tLc (iTup K tl) (gName j) t te vs) σ H (given xs.length f v) := fun H0 e Q q => h H0 e _ fun H1 e1 => ⟨a, rfl, ⟨xs, ex_t (e.trans e1) hx⟩, fun Dl hD =>
  lc_tup (xs := xs) (Cw H1 f v Dl) ⟨hD, Ex.new hD, upd_same⟩ (fun i H' _ p => ex_t ((e.trans e1).trans p.2.1) hx) (fun i x H' hi p => ⟨hw x, cw_turn p (by have := (List.getElem?_eq_some_iff.mp hi).1; omega) (ht i x H1 (e.trans e1) hi) (fun hf => he i x H1 (e.trans e1) hi hf)⟩)
    (fun H' p => q Dl H' (fresh_back e1 p.1) (e1.trans p.2.1) p.2.2)⟩
theorem et_yes : EvT tYes σ H true := fun H1 _ _ q => q H1 (Ex.refl H1)
theorem ev_maxN {tl : TE} {ns : List Int} {m : Int} (h : EvL tl σ H (iv ns)) (m1 : m ∈ ns) (m2 : ∀ y ∈ ns, y ≤ m) : Ev (tCB (rMax K) (tCons tl tNil)) σ H (.int m) := fun H1 e Q q =>
  h H1 e _ fun p H2 _ e2 h2 => ⟨p, ns, rfl, sq_of h2, List.length_pos_of_mem m1, fun m' h1 h3 => by
    have : m' = m := Int.le_antisymm (m2 _ h1) (h3 _ m1)
    rw [this]
    exact q H2 e2⟩
end
def absI (i : Int) : Int := if i < 0 then -i else i
theorem given_abs {ns : List Int} : given (iv ns).length (fun _ => true) (fun i => V.int (absI (ns.getD i 0))) = iv (ns.map absI) := by
  unfold given
  rw [List.filter_eq_self.mpr fun _ _ => rfl]
  refine List.ext_getElem (by simp) fun i h1 h2 => ?_
  simp at h1
  simp [List.getD_eq_getElem?_getD, List.getElem?_eq_getElem h1]
def InFar (ns : List Int) : Prop := ∀ n ∈ ns, absI n ≤ 1000000
def spPlace (K : PySem.W.Frag) (C : Addr) : Sp := fun vs H Q E => ∃ (a : Addr) (ns : List Int), vs = [.ref a] ∧ SqT K H a (iv ns) ∧ 0 < ns.length ∧ ns.length ≤ 100 ∧ (¬ InFar ns → Flies C "badplace" H E) ∧ (InFar ns → RetV .non H Q)
/-- a new floor with one thing more -/
def RetW (kvs ts : List (Key × V)) (so : Str) (n : Int) (v : V) (H : Hp) (Q : VK) : Prop := ∀ (p q : Addr) (H' : Hp), H p = none → Ex H H' → Fz H' q (putK ts (.inl n) v) → Fz H' p (putK kvs (.inr so) (.ref q)) → Q (.ref p) H'
def spWith : Sp := fun vs H Q _ => ∃ (a b : Addr) (so : Str) (n : Int) (v : V) (kvs ts : List (Key × V)), vs = [.ref a, .str so, .int n, v] ∧ Fz H a kvs ∧ valV kvs (.inr so) = some (.ref b) ∧ Fz H b ts ∧ kvs.length ≤ 10000 ∧ ts.length ≤ 10000 ∧ RetW kvs ts so n v H Q
section
variable {P : Program} {w : World} {K : PySem.W.Frag} {mg : Str → Option Value} {base : Heap} {f C : Addr} {fd : FuncData}
abbrev sPlace : Stmt := top 48
theorem scPlace : FnScope ["place", "number"] ["place"] (defScope sPlace) := ⟨rfl, rfl, rfl, by decide +kernel, rfl, by decide +kernel, by decide +kernel⟩
theorem ok_place (F : FnP K "check_place" sPlace f fd) (Er_BadPlace : ErrF P w K mg base 1 "BadPlace" C "badplace") (g_max : mg "max" = none) (g_abs : mg "abs" = none) (g_FAR : ∃ u, mg "FAR" = some u ∧ RelV (.int 1000000) u) : FnOk P w K mg base (L2.CX P w) 3 f fd ["place"] (spPlace K C) := by
  have nd := scPlace.nd
  obtain ⟨uF, g_FAR⟩ := g_FAR
  refine F.ok scPlace (fun vs H Q E h => ?_) (fun cdv A outer s H vs Q E hr h => ⟨_, (pss_one (ps_if (pt_cmpR op_gt (pe_callB (r := rMax K) (cr_max rfl) (by rfl) g_max (by decide +kernel) (pa_cons (pe_lc (own := [("number", 1)]) rfl nd (pi_tup (pv 0)) (blkOk_by (N := ["place", "number"]) (sc := defScope (Hs.top 48)) (by decide +kernel)) (fun _ _ _ _ _ => (pg_name (i := 1) nd rfl (Or.inl rfl))) (fun _ _ _ _ _ => pts_nil) (fun _ _ _ _ _ => (pe_callB call_abs (by rfl) g_abs (by decide +kernel) (pa_cons (pv 1) pa_nil)))) pa_nil)) (pe_glob (by rfl) g_FAR.1 g_FAR.2) (nomark _)) (pss_one (ps_raise rfl (takes_of rfl rfl rfl rfl) (Hs.pmk_err Er_BadPlace hr (by decide) (by rfl)))) pss_nil)), ?_⟩)
  · obtain ⟨a, ns, rfl, _⟩ := h
    rfl
  · obtain ⟨a, ns, rfl, hS, h0, hz, kE, k⟩ := h
    obtain ⟨x, xs, hx⟩ : ∃ x xs, ns.map absI = x :: xs := by
      cases ns with
      | nil => cases h0
      | cons x xs => exact ⟨_, _, rfl⟩
    obtain ⟨m1, m2⟩ := maxOf_mem xs x
    rw [← hx] at m1 m2
    generalize PySem.W.maxOf x xs = m at m1 m2
    refine s_when (b := decide (1000000 < m)) (et_test (ev_op (ev_maxN (K := K) (ns := ns.map absI) ?l m1 m2) ev_c rv_I0)) (fun ht H1 e1 => ?_) (fun ht H1 e1 => ?_)
    case l =>
      rw [← given_abs]
      exact el_lcT _ _ (ev_var rfl) hS (by rw [List.length_map]; omega) (fun _ => rfl) (fun _ _ _ _ _ => et_yes) (fun i x H1 _ hx _ => by
        obtain ⟨c, rfl, hc⟩ := iv_at hx
        have e : ns.getD i 0 = c := by rw [List.getD_eq_getElem?_getD, hc] <;> rfl
        rw [e]
        exact fun H2 _ Q q => ⟨_, rfl, c, rfl, q H2 (Ex.refl H2)⟩)
    · refine (kE fun g => ?_).ext e1
      have := of_decide_eq_true ht
      obtain ⟨n, hn, rfl⟩ := List.mem_map.mp m1
      have := g n hn
      omega
    · refine k (fun n hn => ?_) H1 e1
      have h1 := of_decide_eq_false ht
      have h2 := m2 _ (List.mem_map.mpr ⟨n, hn, rfl⟩)
      omega
abbrev sWith : Stmt := top 69
theorem scWith : FnScope ["floor", "sort", "number", "thing"] ["floor", "sort", "number", "thing"] (defScope sWith) := ⟨rfl, rfl, rfl, by decide +kernel, rfl, by decide +kernel, by decide +kernel⟩
theorem ok_with (F : FnP K "with_thing" sWith f fd) : FnOk P w K mg base CX0 1 f fd ["floor", "sort", "number", "thing"] spWith := by
  have nd := scWith.nd
  refine F.ok scWith (fun vs H Q E h => ?_) (fun cdv A outer s H vs Q E hr h => ⟨_, PSs.nox (pss_one (ps_ret (Hs.pe_frz (Hs.pe_dstar (pv 0) (pv 1) (Hs.pe_frz (Hs.pe_dstar (pe_dget (Hs.un1 hr) (pv 0) (pv 1) (fun _ _ => rfl)) (pv 2) (pv 3))))))), ?_⟩)
  · obtain ⟨a, b, so, n, v, kvs, ts, rfl, _⟩ := h
    rfl
  · obtain ⟨a, b, so, n, v, kvs, ts, rfl, ha, hv, hb, l1, l2, k⟩ := h
    refine eu_dstarG (σ := [some (.ref a), some (.str so), some (.int n), some v]) (key := .inr so) (G := fun z H2 => ∃ q, z = .ref q ∧ Fz H2 q (putK ts (.inl n) v)) (ev_var rfl) (ev_var rfl) ?inn (fun z H2 H3 ⟨q, ez, hq⟩ e => ⟨q, ez, hq.extF e⟩) ha l1 H (Ex.refl H) _ fun p z H2 hp e2 ⟨q, ez, hq⟩ hz => ?_
    case inn =>
      intro H1 e1 Q' q'
      refine eu_dstar (key := .inl n) (H := H1) (σ := [some (.ref a), some (.str so), some (.int n), some v]) (a := b) (kvs := ts) (z := v) ?d (ev_var rfl) (ev_var rfl) (hb.ext e1) l2 H1 (Ex.refl H1) _ fun p H2 hp e2 h2 => q' _ H2 e2 ⟨p, rfl, h2⟩
      exact fun H2 e2 Q2 q2 => ⟨_, rfl, _, rfl, a, _, rfl, by have z := (ha.ext (e1.trans e2)).get (k := .inr so); rw [hv] at z; exact z, q2 H2 (Ex.refl H2)⟩
    · subst ez
      exact k p q H2 hp e2 hq hz
end
end Hs
namespace Hs
open PySem PySem.Spec PyProof.Rows L2 Evl
def InLit (most : Int) (ns : List Int) : Prop := ∀ n ∈ ns, 0 ≤ n ∧ n ≤ most
def spLightC (K : PySem.W.Frag) (C : Addr) : Sp := fun vs H Q E => ∃ (a : Addr) (most : Int) (ns : List Int), vs = [.ref a, .int most] ∧ SqT K H a (iv ns) ∧ 0 < ns.length ∧ (¬ InLit most ns → Flies C "badlight" H E) ∧ (InLit most ns → RetV .non H Q)
def spRoom (C : Addr) : Sp := fun vs H Q E => ∃ (a : Addr) (m : Int) (kvs : List (Key × V)), vs = [.ref a, .int m] ∧ Fz H a kvs ∧ ((kvs.length : Int) ≥ m → Flies C "full" H E) ∧ ((kvs.length : Int) < m → RetV .non H Q)
/-- a state: its floor, its looks, its coming numbers -/
structure StA (K : PySem.W.Frag) (H : Hp) (s fl lk cm : Addr) (kvs ls cs : List (Key × V)) : Prop where
  t : SqT K H s [.ref fl, .ref lk, .ref cm]
  f : Fz H fl kvs
  l : Fz H lk ls
  c : Fz H cm cs
theorem StA.ext {K : PySem.W.Frag} {H H' : Hp} {s fl lk cm : Addr} {kvs ls cs : List (Key × V)} (h : StA K H s fl lk cm kvs ls cs) (e : Ex H H') : StA K H' s fl lk cm kvs ls cs := ⟨ex_t e h.t, h.f.ext e, h.l.ext e, h.c.ext e⟩
/-- a new state and its number -/
def RetP (kvs ts ls cs : List (Key × V)) (lk : Addr) (so : Str) (n : Int) (v : V) (K : PySem.W.Frag) (H : Hp) (Q : VK) : Prop := ∀ (r s' fl' q cm' : Addr) (H' : Hp), Ex H H' → H' r = some (.tup [.ref s', .int n]) → StA K H' s' fl' lk cm' (putK kvs (.inr so) (.ref q)) ls (putK cs (.inr so) (.int (n + 1))) → Fz H' q (putK ts (.inl n) v) → Q (.ref r) H'
def spPut (K : PySem.W.Frag) (C : Addr) : Sp := fun vs H Q E => ∃ (s fl lk cm b : Addr) (kvs ls cs ts : List (Key × V)) (so : Str) (n : Int) (v : V), vs = [.ref s, .str so, v] ∧ StA K H s fl lk cm kvs ls cs ∧ valV kvs (.inr so) = some (.ref b) ∧ Fz H b ts ∧ valV cs (.inr so) = some (.int n) ∧
  kvs.length ≤ 10000 ∧ ts.length ≤ 10000 ∧ cs.length ≤ 10000 ∧ (12 ≤ ts.length → Flies C "full" H E) ∧ (ts.length < 12 → RetP kvs ts ls cs lk so n v K H Q)
section
variable {P : Program} {w : World} {K : PySem.W.Frag} {mg : Str → Option Value} {base : Heap} {f C : Addr} {fd : FuncData}
abbrev sLightC : Stmt := top 49
theorem scLightC : FnScope ["light", "most"] ["light", "most"] (defScope sLightC) := ⟨rfl, rfl, rfl, by decide +kernel, rfl, by decide +kernel, by decide +kernel⟩
theorem ok_lightC (F : FnP K "check_light" sLightC f fd) (Er_BadLight : ErrF P w K mg base 1 "BadLight" C "badlight") (g_max : mg "max" = none) (g_min : mg "min" = none) : FnOk P w K mg base (L2.CX P w) 3 f fd ["light", "most"] (spLightC K C) := by
  have nd := scLightC.nd
  refine F.ok scLightC (fun vs H Q E h => ?_) (fun cdv A outer s H vs Q E hr h => ⟨_, (pss_one (ps_if (PW.pt (pw_or (pt_cmpR op_lt (pe_callB (r := Hs.rMinT K) (Hs.cr_minT rfl hr) (by rfl) g_min (by decide +kernel) (pa_cons (pv 0) pa_nil)) pe_int (nomark _)) (pw_or1 (pt_cmpR op_gt (pe_callB (r := Hs.rMaxT K) (Hs.cr_maxT rfl hr) (by rfl) g_max (by decide +kernel) (pa_cons (pv 0) pa_nil)) (pv 1) (nomark _))))) (pss_one (ps_raise rfl (takes_of rfl rfl rfl rfl) (Hs.pmk_err Er_BadLight hr (by decide) (by rfl)))) pss_nil)), ?_⟩)
  · obtain ⟨a, m, ns, rfl, _⟩ := h
    rfl
  · obtain ⟨a, most, ns, rfl, hS, h0, kE, k⟩ := h
    obtain ⟨x, xs, rfl⟩ : ∃ x xs, ns = x :: xs := by
      cases ns with
      | nil => cases h0
      | cons x xs => exact ⟨_, _, rfl⟩
    obtain ⟨m1, m2⟩ := maxOf_mem xs x
    obtain ⟨l1, l2⟩ := minOf_mem xs x
    generalize PySem.W.maxOf x xs = m at m1 m2
    generalize PySem.W.minOf x xs = l at l1 l2
    have eL : Ev (tCB (rMinT K) (tCons (tVar 0) tNil)) [some (.ref a), some (.int most)] H (.int l) := fun H1 e Q q => ⟨_, rfl, a, _, rfl, ex_t e hS, h0, fun m' h1 h3 => by
      have : m' = l := Int.le_antisymm (h3 _ l1) (l2 _ h1)
      rw [this]
      exact q H1 (Ex.refl H1)⟩
    have eM : Ev (tCB (rMaxT K) (tCons (tVar 0) tNil)) [some (.ref a), some (.int most)] H (.int m) := fun H1 e Q q => ⟨_, rfl, a, _, rfl, ex_t e hS, h0, fun m' h1 h3 => by
      have : m' = m := Int.le_antisymm (m2 _ h1) (h3 _ m1)
      rw [this]
      exact q H1 (Ex.refl H1)⟩
    refine s_when (et_or (et_test (ev_op eL ev_c rv_I0)) fun _ => et_test (ev_op eM (ev_var rfl) rv_I0)) (fun ht H1 e1 => ?_) (fun ht H1 e1 => ?_)
    · refine (kE fun g => ?_).ext e1
      have g1 := g _ l1
      have g2 := g _ m1
      simp at ht
      omega
    · refine k (fun n hn => ?_) H1 e1
      have g1 := l2 n hn
      have g2 := m2 n hn
      simp at ht
      omega
abbrev sRoom : Stmt := top 79
theorem scRoom : FnScope ["rows", "most"] ["rows", "most"] (defScope sRoom) := ⟨rfl, rfl, rfl, by decide +kernel, rfl, by decide +kernel, by decide +kernel⟩
theorem ok_room (F : FnP K "check_room" sRoom f fd) (Er_Full : ErrF P w K mg base 1 "Full" C "full") (g_len : mg "len" = none) : FnOk P w K mg base (L2.CX P w) 3 f fd ["rows", "most"] (spRoom C) := by
  have nd := scRoom.nd
  refine F.ok scRoom (fun vs H Q E h => ?_) (fun cdv A outer s H vs Q E hr h => ⟨_, (pss_one (ps_if (pt_cmpR op_ge (pe_callB (r := Hs.rLenF) Hs.call_lenF (by rfl) g_len PySem.boot_len (pa_cons (pv 0) pa_nil)) (pv 1) (nomark _)) (pss_one (ps_raise rfl (takes_of rfl rfl rfl rfl) (Hs.pmk_err Er_Full hr (by decide) (by rfl)))) pss_nil)), ?_⟩)
  · obtain ⟨a, m, kvs, rfl, _⟩ := h
    rfl
  · obtain ⟨a, m, kvs, rfl, hF, kE, k⟩ := h
    have eN : Ev (tCB rLenF (tCons (tVar 0) tNil)) [some (.ref a), some (.int m)] H (.int (kvs.length : Int)) := fun H1 e Q q => ⟨_, rfl, a, kvs, rfl, (hF.ext e).rd, q H1 (Ex.refl H1)⟩
    refine s_when (et_test (ev_op eN (ev_var rfl) rv_I0)) (fun ht H1 e1 => ?_) (fun ht H1 e1 => ?_)
    · exact (kE (of_decide_eq_true ht)).ext e1
    · exact k (by have := of_decide_eq_false ht; omega) H1 e1
abbrev sPut : Stmt := top 80
theorem scPut : FnScope ["state", "sort", "thing", "floor", "looks", "coming", "number"] ["state", "sort", "thing"] (defScope sPut) := ⟨rfl, rfl, rfl, by decide +kernel, rfl, by decide +kernel, by decide +kernel⟩
theorem ok_put (F : FnP K "put" sPut f fd) (O_check_room : OwnX P w K mg base 3 "check_room" ["rows", "most"] [] (spRoom C)) (O_with_thing : Own P w K mg base 1 "with_thing" ["floor", "sort", "number", "thing"] spWith) (g_MOST_THINGS : ∃ u, mg "MOST_THINGS" = some u ∧ RelV (.int 12) u) : FnOk P w K mg base (L2.CX P w) 4 f fd ["state", "sort", "thing"] (spPut K C) := by
  have nd := scPut.nd
  obtain ⟨uM, g_MOST_THINGS⟩ := g_MOST_THINGS
  refine F.ok scPut (fun vs H Q E h => ?_) (fun cdv A outer s H vs Q E hr h => ⟨_, (pss_cons (ps_asg (pv 0) (pg_tup rfl (pgs_cons (pg_name (i := 3) nd rfl (.inl rfl)) (pgs_cons (pg_name (i := 4) nd rfl (.inl rfl)) (pgs_cons (pg_name (i := 5) nd rfl (.inl rfl)) pgs_nil)))))
  (pss_cons (ps_expr (Hs.pe_ownT O_check_room hr (by decide) (by rfl) (passes_call (takes_of rfl rfl rfl rfl) (fun _ _ _ _ h => h)) (pa_cons (pe_dget (Hs.un1 hr) (pv 3) (pv 1) (fun _ _ => rfl)) (pa_cons (pe_glob (by rfl) g_MOST_THINGS.1 g_MOST_THINGS.2) pa_nil))))
  (pss_cons (ps_set (i := 6) nd rfl (.inl rfl) (pe_dget (Hs.un1 hr) (pv 5) (pv 1) (fun _ _ => rfl)))
  (pss_one (ps_ret (pe_tup (pa_cons (pe_tup (pa_cons (Hs.pe_own O_with_thing hr (by first | decide | omega) (by rfl) (pa_cons (pv 3) (pa_cons (pv 1) (pa_cons (pv 6) (pa_cons (pv 2) pa_nil))))) (pa_cons (pv 4) (pa_cons (Hs.pe_frz (Hs.pe_dstar (pv 5) (pv 1) (pe_op op_add (pv 6) pe_int))) pa_nil)))) (pa_cons (pv 6) pa_nil)))))))), ?_⟩)
  · obtain ⟨s, fl, lk, cm, b, kvs, ls, cs, ts, so, n, v, rfl, _⟩ := h
    rfl
  · obtain ⟨s, fl, lk, cm, b, kvs, ls, cs, ts, so, n, v, rfl, S, hv, hb, hn, l1, l2, l3, kE, k⟩ := h
    refine ⟨_, rfl, s, _, rfl, S.t, rfl, _, _, rfl, _, _, rfl, _, _, rfl, rfl, ?_⟩
    dsimp only [gName, List.set]
    refine ⟨_, rfl, _, rfl, fl, _, rfl, by have z := S.f.get (k := .inr so); rw [hv] at z; exact z, b, 12, ts, rfl, hb, fun h => kE (by omega), fun h H1 e1 => ?_⟩
    have S1 := S.ext e1
    refine ⟨_, rfl, _, rfl, cm, _, rfl, by have z := S1.c.get (k := .inr so); rw [hn] at z; exact z, ?_⟩
    dsimp only [gName, List.set]
    refine ⟨_, rfl, _, rfl, _, rfl, _, rfl, fl, b, so, n, v, kvs, ts, rfl, S1.f, hv, hb.ext e1, l1, l2, fun p q H2 hp e2 hq hp2 => ⟨_, rfl, ?_⟩⟩
    refine eu_dstar (σ := [some (.ref s), some (.str so), some v, some (.ref fl), some (.ref lk), some (.ref cm), some (.int n)]) (key := .inr so) (z := .int (n + 1)) (ev_var rfl) (ev_var rfl) (ev_op (ev_var rfl) ev_c rv_I0) (S1.c.ext e2) l3 H2 (Ex.refl H2) _ fun p2 H3 hp3 e3 h3 => ⟨sz_of (by simp), fun s' hs' => ⟨_, rfl, sz_of (by simp), fun r hr' => ?_⟩⟩
    have x1 := Ex.new (o := .tup [V.ref p, .ref lk, .ref p2]) hs'
    have x2 := Ex.new (o := .tup [V.ref s', .int n]) hr'
    have e23 := (e3.trans x1).trans x2
    exact k (by omega) r s' p q p2 _ ((e1.trans e2).trans e23) upd_same ⟨st_of (x2 _ _ upd_same), hp2.ext e23, (S1.l.ext e2).ext e23, h3.ext (x1.trans x2)⟩ (hq.ext e23)
end
end Hs
namespace Hs
open PySem PySem.Spec PyProof.Rows L2 Evl
/-- the lamp of one choice at th -/
structure LampA (H : Hp) (th : Addr) (on : Bool) (c : List Int) : Prop where
  ex : ∃ ch c1, H th = some (.tup [.ref ch, .bl on]) ∧ H ch = some (.tup [.ref c1]) ∧ H c1 = some (.tup (iv c))
theorem LampA.ext {H H' : Hp} {th : Addr} {on : Bool} {c : List Int} (h : LampA H th on c) (e : Ex H H') : LampA H' th on c := by
  obtain ⟨ch, c1, h1, h2, h3⟩ := h.ex
  exact ⟨ch, c1, e _ _ h1, e _ _ h2, e _ _ h3⟩
def spDoLamp (K : PySem.W.Frag) (cP cL cF : Addr) : Sp := fun vs H Q E => ∃ (s fl lk cm b : Addr) (kvs ls cs ts : List (Key × V)) (n x y r g u : Int), vs = [.ref s, .int x, .int y, .int r, .int g, .int u] ∧ StA K H s fl lk cm kvs ls cs ∧ valV kvs (.inr "lamp") = some (.ref b) ∧ Fz H b ts ∧ valV cs (.inr "lamp") = some (.int n) ∧
  kvs.length ≤ 10000 ∧ ts.length ≤ 10000 ∧ cs.length ≤ 10000 ∧ (¬ InFar [x, y] → Flies cP "badplace" H E) ∧ (InFar [x, y] → ¬ InLit 1000000 [r, g, u] → Flies cL "badlight" H E) ∧ (InFar [x, y] → InLit 1000000 [r, g, u] → 12 ≤ ts.length → Flies cF "full" H E) ∧
  (InFar [x, y] → InLit 1000000 [r, g, u] → ts.length < 12 → ∀ (th : Addr) (H1 : Hp), Ex H H1 → LampA H1 th true [x, y, r, g, u] → RetP kvs ts ls cs lk "lamp" n (.ref th) K H1 Q)
section
variable {P : Program} {w : World} {K : PySem.W.Frag} {mg : Str → Option Value} {base : Heap} {f cP cL cF : Addr} {fd : FuncData}
abbrev sDoLamp : Stmt := top 81
theorem scDoLamp : FnScope ["state", "across", "up", "red", "green", "blue"] ["state", "across", "up", "red", "green", "blue"] (defScope sDoLamp) := ⟨rfl, rfl, rfl, by decide +kernel, rfl, by decide +kernel, by decide +kernel⟩
theorem ok_doLamp (F : FnP K "do_lamp" sDoLamp f fd) (O_check_place : OwnX P w K mg base 3 "check_place" ["place"] [] (spPlace K cP)) (O_check_light : OwnX P w K mg base 3 "check_light" ["light", "most"] [] (spLightC K cL)) (O_put : OwnX P w K mg base 4 "put" ["state", "sort", "thing"] [] (spPut K cF)) (g_BRIGHT : ∃ u, mg "BRIGHT" = some u ∧ RelV (.int 1000000) u) : FnOk P w K mg base (L2.CX P w) 5 f fd ["state", "across", "up", "red", "green", "blue"] (spDoLamp K cP cL cF) := by
  have nd := scDoLamp.nd
  obtain ⟨uM, g_BRIGHT⟩ := g_BRIGHT
  refine F.ok scDoLamp (fun vs H Q E h => ?_) (fun cdv A outer s H vs Q E hr h => ⟨_, (pss_cons (ps_expr (Hs.pe_ownT O_check_place hr (by decide) (by rfl) (passes_call (takes_of rfl rfl rfl rfl) (fun _ _ _ _ h => h)) (pa_cons (pe_tup (pa_cons (pv 1) (pa_cons (pv 2) pa_nil))) pa_nil)))
  (pss_cons (ps_expr (Hs.pe_ownT O_check_light hr (by decide) (by rfl) (passes_call (takes_of rfl rfl rfl rfl) (fun _ _ _ _ h => h)) (pa_cons (pe_tup (pa_cons (pv 3) (pa_cons (pv 4) (pa_cons (pv 5) pa_nil)))) (pa_cons (pe_glob (by rfl) g_BRIGHT.1 g_BRIGHT.2) pa_nil))))
  (pss_one (ps_ret (Hs.pe_ownT O_put hr (by decide) (by rfl) (passes_call (takes_of rfl rfl rfl rfl) (fun _ _ _ _ h => h)) (pa_cons (pv 0) (pa_cons pe_str (pa_cons (pe_tup (pa_cons (pe_tup (pa_cons (pe_tup (pa_cons (pv 1) (pa_cons (pv 2) (pa_cons (pv 3) (pa_cons (pv 4) (pa_cons (pv 5) pa_nil)))))) pa_nil)) (pa_cons pe_bl pa_nil))) pa_nil)))))))), ?_⟩)
  · obtain ⟨s, fl, lk, cm, b, kvs, ls, cs, ts, n, x, y, r, g, u, rfl, _⟩ := h
    rfl
  · obtain ⟨s, fl, lk, cm, b, kvs, ls, cs, ts, n, x, y, r, g, u, rfl, S, hv, hb, hn, l1, l2, l3, kP, kL, kF, k⟩ := h
    refine ⟨_, rfl, _, rfl, sz_of (by simp), fun t1 ht1 => ⟨t1, [x, y], rfl, st_of upd_same, by simp, by simp, fun h => (kP h).ext (Ex.new ht1), fun hF H1 e1 => ?_⟩⟩
    have e01 := (Ex.new (o := .tup [V.int x, .int y]) ht1).trans e1
    refine ⟨_, rfl, _, rfl, _, rfl, sz_of (by simp), fun t2 ht2 => ⟨t2, 1000000, [r, g, u], rfl, st_of upd_same, by simp, fun h => (kL hF h).ext (e01.trans (Ex.new ht2)), fun hL H2 e2 => ?_⟩⟩
    have e02 := (e01.trans (Ex.new (o := .tup [V.int r, .int g, .int u]) ht2)).trans e2
    refine ⟨_, rfl, _, rfl, _, rfl, _, rfl, _, rfl, _, rfl, sz_of (by simp), fun c1 hc1 => ⟨sz_of (by simp), fun ch hch => ⟨sz_of (by simp), fun th hth => ?_⟩⟩⟩
    have x1 := Ex.new (o := .tup (iv [x, y, r, g, u])) hc1
    have x2 := Ex.new (o := .tup [V.ref c1]) hch
    have x3 := Ex.new (o := .tup [V.ref ch, .bl true]) hth
    have e05 := e02.trans ((x1.trans x2).trans x3)
    refine ⟨s, fl, lk, cm, b, kvs, ls, cs, ts, "lamp", n, .ref th, rfl, S.ext e05, hv, hb.ext e05, hn, l1, l2, l3, fun h => (kF hF hL h).ext e05, fun h => k hF hL h th _ e05 ⟨ch, c1, upd_same, x3 _ _ upd_same, (x2.trans x3) _ _ upd_same⟩⟩
end
end Hs
namespace Hs
open PySem PySem.Spec PyProof.Rows L2 Evl
def sortsV : List V := [.str "lamp", .str "post", .str "pane"]
def spThing (K : PySem.W.Frag) : Sp := fun vs H Q _ => ∃ (a b : Addr) (so : Str) (n : Int) (v : V) (kvs ts : List (Key × V)), vs = [.ref a, .str so, .int n] ∧ Fz H a kvs ∧ inV (.str so) sortsV = true ∧ valV kvs (.inr so) = some (.ref b) ∧ Fz H b ts ∧ valV ts (.inl n) = some v ∧ RetV v H Q
def spSwitch (K : PySem.W.Frag) : Sp := fun vs H Q _ => ∃ (s fl lk cm b th : Addr) (kvs ls cs ts : List (Key × V)) (n : Int) (on : Bool) (c : List Int), vs = [.ref s, .int n] ∧ StA K H s fl lk cm kvs ls cs ∧ valV kvs (.inr "lamp") = some (.ref b) ∧ Fz H b ts ∧ valV ts (.inl n) = some (.ref th) ∧ LampA H th on c ∧ kvs.length ≤ 10000 ∧ ts.length ≤ 10000 ∧
  ∀ (r s' fl' q th' : Addr) (H' : Hp), Ex H H' → LampA H' th' (!on) c → H' r = some (.tup [.ref s', .non]) → StA K H' s' fl' lk cm (putK kvs (.inr "lamp") (.ref q)) ls cs → Fz H' q (putK ts (.inl n) (.ref th')) → Q (.ref r) H'
section
variable {P : Program} {w : World} {K : PySem.W.Frag} {mg : Str → Option Value} {base : Heap} {f C S : Addr} {fd : FuncData}
abbrev sThing : Stmt := top 71
theorem scThing : FnScope ["floor", "sort", "number"] ["floor", "sort", "number"] (defScope sThing) := ⟨rfl, rfl, rfl, by decide +kernel, rfl, by decide +kernel, by decide +kernel⟩
theorem ok_thing (F : FnP K "thing_of" sThing f fd) (g_SORTS : mg "SORTS" = some (.ref S) ∧ RelV (.ref S) (.ref S)) (hS : ∀ H, SqT K H S sortsV) : FnOk P w K mg base CX0 1 f fd ["floor", "sort", "number"] (spThing K) := by
  have nd := scThing.nd
  refine F.ok scThing (fun vs H Q E h => ?_) (fun cdv A outer s H vs Q E hr h => ⟨_, PSs.nox (pss_cons (ps_if (pt_cmpR op_notIn_seq (pv 1) (pe_glob (by rfl) g_SORTS.1 g_SORTS.2) (by rfl)) (pss_one ps_never) pss_nil)
  (pss_cons (ps_if (pt_cmp (pc_dnotin (Hs.un1 hr) (pv 2) (pe_dget (Hs.un1 hr) (pv 0) (pv 1) (fun _ _ => rfl)))) (pss_one ps_never) pss_nil)
  (pss_one (ps_ret (pe_dget (Hs.un1 hr) (pe_dget (Hs.un1 hr) (pv 0) (pv 1) (fun _ _ => rfl)) (pv 2) (fun _ _ => rfl)))))), ?_⟩)
  · obtain ⟨a, b, so, n, v, kvs, ts, rfl, _⟩ := h
    rfl
  · obtain ⟨a, b, so, n, v, kvs, ts, rfl, ha, hso, hv, hb, hn, k⟩ := h
    have gF : ∀ {H1 : Hp}, Ex H H1 → DGet H1 a (.str so) (some (.ref b)) := fun e => by
      have z := (ha.ext e).get (k := .inr so)
      rw [hv] at z
      exact z
    have gT : ∀ {H1 : Hp}, Ex H H1 → DGet H1 b (.int n) (some v) := fun e => by
      have z := (hb.ext e).get (k := .inl n)
      rw [hn] at z
      exact z
    refine q_when (b := false) (fun H1 e1 Q' q => ⟨_, rfl, S, sortsV, rfl, .inr (hS H1), rfl, rfl, false, by rw [hso] <;> rfl, q H1 (Ex.refl H1)⟩) (fun ht => Bool.noConfusion ht) (fun _ H1 e1 => ?_)
    refine q_when (b := false) (fun H2 e2 Q' q => ⟨_, rfl, _, rfl, _, rfl, a, _, rfl, gF (e1.trans e2), b, _, rfl, gT (e1.trans e2), false, rfl, q H2 (Ex.refl H2)⟩) (fun ht => Bool.noConfusion ht) (fun _ H2 e2 => ?_)
    exact ⟨_, rfl, _, rfl, a, _, rfl, gF (e1.trans e2), _, rfl, b, _, rfl, gT (e1.trans e2), k H2 (e1.trans e2)⟩
abbrev sSwitch : Stmt := top 86
theorem scSwitch : FnScope ["state", "number", "floor", "looks", "coming", "choices", "on"] ["state", "number"] (defScope sSwitch) := ⟨rfl, rfl, rfl, by decide +kernel, rfl, by decide +kernel, by decide +kernel⟩
theorem ok_switch (F : FnP K "do_switch" sSwitch f fd) (O_thing_of : Own P w K mg base 1 "thing_of" ["floor", "sort", "number"] (spThing K)) (O_with_thing : Own P w K mg base 1 "with_thing" ["floor", "sort", "number", "thing"] spWith) : FnOk P w K mg base (L2.CX P w) 2 f fd ["state", "number"] (spSwitch K) := by
  have nd := scSwitch.nd
  refine F.ok scSwitch (fun vs H Q E h => ?_) (fun cdv A outer s H vs Q E hr h => ⟨_, (pss_cons (ps_asg (pv 0) (pg_tup rfl (pgs_cons (pg_name (i := 2) nd rfl (.inl rfl)) (pgs_cons (pg_name (i := 3) nd rfl (.inl rfl)) (pgs_cons (pg_name (i := 4) nd rfl (.inl rfl)) pgs_nil)))))
  (pss_cons (ps_asg (Hs.pe_own O_thing_of hr (by first | decide | omega) (by rfl) (pa_cons (pv 2) (pa_cons pe_str (pa_cons (pv 1) pa_nil)))) (pg_tup rfl (pgs_cons (pg_name (i := 5) nd rfl (.inl rfl)) (pgs_cons (pg_name (i := 6) nd rfl (.inl rfl)) pgs_nil))))
  (pss_one (ps_ret (pe_tup (pa_cons (pe_tup (pa_cons (Hs.pe_own O_with_thing hr (by first | decide | omega) (by rfl) (pa_cons (pv 2) (pa_cons pe_str (pa_cons (pv 1) (pa_cons (pe_tup (pa_cons (pv 5) (pa_cons (pe_not (pv 6)) pa_nil))) pa_nil))))) (pa_cons (pv 3) (pa_cons (pv 4) pa_nil)))) (pa_cons pe_non pa_nil))))))), ?_⟩)
  · obtain ⟨s, fl, lk, cm, b, th, kvs, ls, cs, ts, n, on, c, rfl, _⟩ := h
    rfl
  · obtain ⟨s, fl, lk, cm, b, th, kvs, ls, cs, ts, n, on, c, rfl, S, hv, hb, hn, hL, l1, l2, k⟩ := h
    refine ⟨_, rfl, s, _, rfl, S.t, rfl, _, _, rfl, _, _, rfl, _, _, rfl, rfl, ?_⟩
    dsimp only [gName, List.set]
    refine ⟨_, rfl, _, rfl, fl, b, "lamp", n, .ref th, kvs, ts, rfl, S.f, by decide +kernel, hv, hb, hn, fun H1 e1 => ?_⟩
    obtain ⟨ch, c1, h1, h2, h3⟩ := (hL.ext e1).ex
    refine ⟨th, _, rfl, st_of h1, rfl, _, _, rfl, _, _, rfl, rfl, ?_⟩
    dsimp only [gName, List.set]
    have S1 := S.ext e1
    refine ⟨_, rfl, _, rfl, _, rfl, _, rfl, on, rfl, sz_of (by simp), fun th' hth' => ?_⟩
    have x1 := Ex.new (o := .tup [V.ref ch, .bl (!on)]) hth'
    refine ⟨fl, b, "lamp", n, .ref th', kvs, ts, rfl, S1.f.ext x1, hv, (hb.ext e1).ext x1, l1, l2, fun p q H2 hp e2 hq hp2 => ⟨_, rfl, _, rfl, sz_of (by simp), fun s' hs' => ⟨sz_of (by simp), fun r hr' => ?_⟩⟩⟩
    have x2 := Ex.new (o := .tup [V.ref p, .ref lk, .ref cm]) hs'
    have x3 := Ex.new (o := .tup [V.ref s', .non]) hr'
    have e23 := x2.trans x3
    have e13 := (x1.trans e2).trans e23
    exact k r s' p q th' _ (e1.trans e13) ⟨ch, c1, (e2.trans e23) _ _ upd_same, e13 _ _ h2, e13 _ _ h3⟩ upd_same ⟨st_of (x3 _ _ upd_same), hp2.ext e23, (S1.l.ext (x1.trans e2)).ext e23, (S1.c.ext (x1.trans e2)).ext e23⟩ (hq.ext e23)
end
end Hs
namespace Hs
open PySem PySem.Spec PyProof.Rows L2 Evl
/-- d[z], d a dict of the written part with texts as keys -/
def tKdGet (K : PySem.W.Frag) (d : Addr) (td ty : TE) : TE := fun σ H Q => td σ H fun x H1 => ty σ H1 fun y H2 => ∃ (z : Str) (u0 : Value) (v0 : V), x = .ref d ∧ y = .str z ∧ PySem.W.nsIn K d z = some (some u0) ∧ RelV v0 u0 ∧ Q v0 H2
theorem pe_kdget {X : Cx} {d : Addr} {es : Array DictEntry} {n : Nat} {o i : Expr} {pos : Pos} {td ty : TE} (D : KDict X.K X.w d es n) (ho : PE X o td) (hi : PE X i ty) (hs : NoSl i) : PE X (.Subscript o i pos) (tKdGet X.K d td ty) := by
  refine ⟨fun pins s σ H Q I h => ?_⟩
  refine subD_of PySem.F.slot_dict_getitem.lookup hs (thn (ho.run pins s σ H _ I h) fun u s1 ⟨x, H1, I1, rx, q1⟩ => thn (hi.run pins s1 σ H1 _ I1 q1) fun iv s2 ⟨y, H2, I2, ry, z, u0, v0, ex, ey, e, r, q2⟩ => ?_)
  subst ex
  obtain rfl : u = Value.ref d := rx
  exact ⟨kd_type D I2, op_item_kd D pins s2 σ H2 (.ref d) y (.ref d) iv Q I2 rfl ry ⟨z, u0, v0, rfl, ey, e, r, q2⟩⟩
/-! ### a deed done: by its word, the doer's promise S -/
def spApplied (K : PySem.W.Frag) (dF dD : Addr) (S : Addr → Option Sp) : Sp := fun vs H Q E => ∃ (s d f : Addr) (wd fm : Str) (tk : Tok) (args : List V) (sp : Sp), vs = [.ref s, .ref d] ∧ SqT K H d (.str wd :: args) ∧ PySem.W.nsIn K dF wd = some (some (.str fm tk)) ∧ fm.length = args.length ∧ args.length ≤ 100 ∧
  PySem.W.nsIn K dD wd = some (some (.ref f)) ∧ S f = some sp ∧ ∀ H', Ex H H' → sp (.ref s :: args) H' Q E
section
variable {P : Program} {w : World} {K : PySem.W.Frag} {mg : Str → Option Value} {base : Heap} {f dF dD : Addr} {fd : FuncData} {esF esD : Array DictEntry} {nF nD : Nat} {S : Addr → Option Sp}
abbrev sApplied : Stmt := top 94
theorem scApplied : FnScope ["state", "deed", "doer", "things"] ["state", "deed"] (defScope sApplied) := ⟨rfl, rfl, rfl, by decide +kernel, rfl, by decide +kernel, by decide +kernel⟩
theorem ok_applied (F : FnP K "applied" sApplied f fd) (DF : KDict K w dF esF nF) (DD : KDict K w dD esD nD) (HS : ∀ f sp, S f = some sp → HeldX P w K mg base 5 f sp) (g_len : mg "len" = none) (g_FORMS : mg "FORMS" = some (.ref dF) ∧ RelV (.ref dF) (.ref dF)) (g_DOERS : mg "DOERS" = some (.ref dD) ∧ RelV (.ref dD) (.ref dD)) :
    FnOk P w K mg base (L2.CX P w) 6 f fd ["state", "deed"] (spApplied K dF dD S) := by
  have nd := scApplied.nd
  refine F.ok scApplied (fun vs H Q E h => ?_) (fun cdv A outer s H vs Q E hr h => ⟨_, (pss_cons (ps_if (PW.pt (pw_or (pt_cmpR op_eq (pe_callB (r := Evl.rLenS K) call_len_seq (by rfl) g_len PySem.boot_len (pa_cons (pv 1) pa_nil)) pe_int (nomark _)) (pw_or (pt_cmpR (op_notIn_kd DF) (pe_ix (r := rIxT K) ix_tup (pv 1) pe_int (fun _ _ => rfl)) (pe_glob (by rfl) g_FORMS.1 g_FORMS.2) (by rfl)) (pw_or1 (pt_cmpR op_ne (pe_callB (r := Evl.rLenS K) call_len_seq (by rfl) g_len PySem.boot_len (pa_cons (pv 1) pa_nil)) (pe_op op_add pe_int (pe_callB call_len_str (by rfl) g_len PySem.boot_len (pa_cons (Hs.pe_kdget DF (pe_glob (by rfl) g_FORMS.1 g_FORMS.2) (pe_ix (r := rIxT K) ix_tup (pv 1) pe_int (fun _ _ => rfl)) (fun _ _ => rfl)) pa_nil))) (nomark _)))))) (pss_one ps_never) pss_nil)
  (pss_cons (ps_set (i := 2) nd rfl (.inl rfl) (Hs.pe_kdget DD (pe_glob (by rfl) g_DOERS.1 g_DOERS.2) (pe_ix (r := rIxT K) ix_tup (pv 1) pe_int (fun _ _ => rfl)) (fun _ _ => rfl)))
  (pss_cons (ps_set (i := 3) nd rfl (.inl rfl) (pe_slice sl_tupA (pv 1) (po_some pe_int) po_none))
  (pss_one (ps_ret (Hs.pe_callAS (i := 2) (E := E) HS hr (by decide) rfl (.inl rfl) (passes_call (takes_of rfl rfl rfl rfl) (fun _ _ _ _ h => h)) (pa_cons (pv 0) (StX.pa_star (pv 3) pa_nil)))))))), ?_⟩)
  · obtain ⟨s, d, f, wd, fm, tk, args, sp, rfl, _⟩ := h
    rfl
  · obtain ⟨s, d, f, wd, fm, tk, args, sp, rfl, hd, hF, hl, hz, hD, hS, k⟩ := h
    have hz2 : fm.length ≤ sizeLine := by
      rw [hl, sizeLine_eq]
      omega
    have at0 : atI (.str wd :: args) 0 = some (V.str wd) := atI_nat (xs := .str wd :: args) (j := 0) rfl
    refine q_when (b := false) (fun H1 e1 Q' q => ?_) (fun ht => Bool.noConfusion ht) (fun _ H1 e1 => ?_)
    · have hd1 := ex_t e1 hd
      refine ⟨_, rfl, d, _, rfl, .inr hd1, rfl, false, ?_, ?_⟩
      · rw [decide_eq_false (fun z => by injection z with z; rw [List.length_cons] at z; omega)]
      · refine ite_F rfl ⟨_, rfl, d, _, _, _, rfl, rfl, hd1, at0, wd, _, rfl, rfl, hF, false, rfl, ite_F rfl ?_⟩
        refine ⟨_, rfl, d, _, rfl, .inr hd1, _, rfl, d, _, _, _, rfl, rfl, hd1, at0, wd, _, .str fm, rfl, rfl, hF, ⟨tk, rfl⟩, fm, rfl, hz2, _, _, rfl, rfl, rfl, false, ?_, q H1 (Ex.refl H1)⟩
        rw [hl, List.length_cons]
        simp
        omega
    · have hd1 := ex_t e1 hd
      refine ⟨_, rfl, d, _, _, _, rfl, rfl, hd1, at0, wd, _, .ref f, rfl, rfl, hD, rfl, ?_⟩
      dsimp only [gName, List.set]
      have s1 : HT.sIx (V.str wd :: args).length 0 (some 1) = 1 := by
        have z := HT.sIx_nat (V.str wd :: args).length 0 1
        rw [List.length_cons] at z ⊢
        rw [show ((1 : Nat) : Int) = 1 from rfl] at z
        rw [z]
        omega
      have s2 : cutV (V.str wd :: args) (some 1) none = args := by
        unfold cutV
        rw [s1, HT.sIx_none]
        simp
      refine ⟨_, rfl, 1, rfl, d, _, rfl, hd1, fun hw => ?_, fun _ th hth => ?_⟩
      · have z := hw.1
        rw [s1] at z
        cases z
      · rw [s2]
        refine ⟨f, sp, rfl, hS, _, rfl, _, rfl, th, args, rfl, .inl (st_of upd_same), ?_⟩
        show sp (V.ref s :: (args ++ [])) (upd H1 th (.tup args)) Q E
        rw [List.append_nil]
        exact k _ (e1.trans (Ex.new hth))
end
end Hs
namespace Hs
open PySem PySem.Spec PyProof.Rows L2 Evl
/-! ### the house -/
/-- what the house is told a deed by: spA, what applied promises -/
def spDo (C : Addr) (spA : Sp) : Sp := fun vs H Q E => ∃ (h d dx s p q : Addr) (fs : List (Str × V)) (ps qs : List V), vs = [.ref h, .ref d] ∧ H h = some (.ins C dx fs) ∧ fs.lookup ("state" : Str) = some (.ref s) ∧ fs.lookup ("past" : Str) = some (.ref p) ∧ fs.lookup ("ahead" : Str) = some (.ref q) ∧ H p = some (.lst ps) ∧ H q = some (.lst qs) ∧ p ≠ q ∧ ps.length ≤ 1000 ∧ fs.length < 1000 ∧
  ∀ Q' : VK, (∀ (r : Addr) (s' told : V) (H1 : Hp), H1 r = some (.tup [s', told]) → H1 h = some (.ins C dx fs) → H1 p = some (.lst ps) → H1 q = some (.lst qs) →
    (∀ t, H1 t = none → Q told (upd (upd (upd (upd H1 t (.tup [.ref d, .ref s])) p (.lst (ps ++ [.ref t]))) q (.lst [])) h (.ins C dx (putF "state" s' fs)))) → Q' (.ref r) H1) → spA [.ref s, .ref d] H Q' E
/-- the class House, as it stands -/
structure HouseC (K : PySem.W.Frag) (C : Addr) : Prop where
  c : Cls K C
  s : NoAttr K C "state"
  p : NoAttr K C "past"
  a : NoAttr K C "ahead"
  t : NoAttr K C "trying"
section
variable {P : Program} {w : World} {K : PySem.W.Frag} {mg : Str → Option Value} {base : Heap} {f C : Addr} {fd : FuncData} {spA : Sp}
abbrev sDo : Stmt := (inClass (Hs.top 103) 1)
theorem scDo : FnScope ["self", "deed", "state", "told"] ["self", "deed"] (defScope sDo) := ⟨rfl, rfl, rfl, by decide +kernel, rfl, by decide +kernel, by decide +kernel⟩
theorem ok_do (F : FunD K "do" "House.do" (defArgs sDo) (defBody sDo) (defScope sDo) [] [] f fd) (hC : HouseC K C) (O_applied : OwnX P w K mg base 6 "applied" ["state", "deed"] [] spA) : FnOk P w K mg base (L2.CX P w) 7 f fd ["self", "deed"] (spDo C spA) := by
  have nd := scDo.nd
  refine F.ok scDo (fun vs H Q E h => ?_) (fun cdv A outer s H vs Q E hr h => ⟨_, (pss_cons (ps_asg (Hs.pe_ownT O_applied hr (by decide) (by rfl) (passes_call (takes_of rfl rfl rfl rfl) (fun _ _ _ _ h => h)) (pa_cons (pe_fld (pv 0) (by rfl)) (pa_cons (pv 1) pa_nil))) (pg_tup rfl (pgs_cons (pg_name (i := 2) nd rfl (.inl rfl)) (pgs_cons (pg_name (i := 3) nd rfl (.inl rfl)) pgs_nil))))
  (pss_cons (ps_expr (pe_bm PySem.F.plainAttrs_list PySem.F.slot_list_append PySem.F.type_list_append mt_append (pe_fld (pv 0) (by rfl)) (pa_cons (pe_tup (pa_cons (pv 1) (pa_cons (pe_fld (pv 0) (by rfl)) pa_nil))) pa_nil)))
  (pss_cons (ps_expr (pe_bm0 PySem.F.plainAttrs_list PySem.F.slot_list_clear PySem.F.type_list_clear mt_clear (pe_fld (pv 0) (by rfl))))
  (pss_cons (ps_fld (pv 0) (pv 2) (by rfl))
  (pss_one (ps_ret (pv 3))))))), ?_⟩)
  · obtain ⟨h, d, dx, s, p, q, fs, ps, qs, rfl, _⟩ := h
    rfl
  · obtain ⟨h, d, dx, s, p, q, fs, ps, qs, rfl, hh, ls, lp, lq, hp, hq, npq, zp, zf, kk⟩ := h
    refine ⟨_, rfl, h, C, dx, fs, _, rfl, hh, hC.c, hC.s, ls, _, rfl, ?_⟩
    refine kk _ fun r s' told H1 hr1 hh1 hp1 hq1 fin => ⟨r, _, rfl, st_of hr1, rfl, _, _, rfl, _, _, rfl, rfl, ?_⟩
    dsimp only [gName, List.set]
    refine ⟨_, rfl, h, C, dx, fs, _, rfl, hh1, hC.c, hC.p, lp, .inl ⟨rfl, _, sq_of hp1⟩, _, rfl, _, rfl, h, C, dx, fs, _, rfl, hh1, hC.c, hC.s, ls, sz_of (by simp), fun t ht => ?_⟩
    have nh : ∀ {x : Addr} {ys : List V}, H1 x = some (.lst ys) → h ≠ x := fun hx z => by
      rw [← z, hh1] at hx
      cases hx
    have npt : p ≠ t := ne_of_none hp1 ht
    have nqt : q ≠ t := ne_of_none hq1 ht
    have nht : h ≠ t := ne_of_none hh1 ht
    refine ⟨p, ps, _, rfl, rfl, by rw [upd_ne npt]; exact hp1, by rw [sizeLine_eq]; omega, ?_⟩
    have hh2 : upd (upd H1 t (.tup [.ref d, .ref s])) p (.lst (ps ++ [.ref t])) h = some (.ins C dx fs) := by rw [upd_ne (nh hp1), upd_ne nht]; exact hh1
    have hq2 : upd (upd H1 t (.tup [.ref d, .ref s])) p (.lst (ps ++ [.ref t])) q = some (.lst qs) := by rw [upd_ne (Ne.symm npq), upd_ne nqt]; exact hq1
    refine ⟨_, rfl, h, C, dx, fs, _, rfl, hh2, hC.c, hC.a, lq, .inl ⟨rfl, _, sq_of hq2⟩, q, qs, rfl, rfl, hq2, ?_⟩
    have hh3 : upd (upd (upd H1 t (.tup [.ref d, .ref s])) p (.lst (ps ++ [.ref t]))) q (.lst []) h = some (.ins C dx fs) := by rw [upd_ne (nh hq1)]; exact hh2
    refine ⟨_, rfl, _, rfl, h, C, dx, fs, rfl, hh3, hC.c, hC.s, zf, _, rfl, fin t ht⟩
end
end Hs
namespace Hs
open PySem PySem.Spec PyProof.Rows L2 Evl
/-- an own method by its promise -/
structure MetX (P : Program) (w : World) (K : PySem.W.Frag) (mg : Str → Option Value) (base : Heap) (k : Nat) (C : Addr) (m : Str) (ps : List Str) (dvs : List V) (sp : Sp) : Prop where
  c : Cls K C
  ex : ∃ (f : Addr) (fd : FuncData) (ds : List Value), FnOk P w K mg base (L2.CX P w) k f fd ps sp ∧ Meth K C m f ∧ Vals dvs ds ∧ Binds K fd ps ds
theorem pe_metX {X : Cx} {k j : Nat} {C : Addr} {m : Str} {ps : List Str} {dvs : List V} {sp : Sp} {E : XK} {pos apos : Pos} {e o : Expr} {es : List Expr} {ta : TE} {t : TA} {pl : Sem Bool} (M : MetX X.prog X.w X.K X.mg X.base k C m ps dvs sp) (hr : Room j X.A) (hk : k ≤ j) (hx : Passes (L2.CX X.prog X.w) X E) (he : PE X o ta) (ha : PA X (e :: es) t)
    (hst : starEach (e :: es) X.env = (false, eval e X.env) :: starEach es X.env := by rfl) (hpl : (backTo pos (starEach es X.env)).any (·.1) = false := by rfl)
    (ht : eval (.Call (.Attribute o m apos) (e :: es) [] pos) X.env = (do
      let ov ← eval o X.env
      standAt apos.atName
      let (f, first) ← holding [ov] (getMethod ov m pl)
      callWith pos f first (backTo pos (starEach (e :: es) X.env)) (backToKw pos (keywordEach [] X.env))) := by rfl) :
    PE X (.Call (.Attribute o m apos) (e :: es) [] pos) (tMeth C m sp dvs E ta t) := by
  obtain ⟨f, fd, ds, F, hm, hd, hb⟩ := M.ex
  exact pe_meth he M.c hm F (hr.mono hk) hb hd hx ha hst hpl ht
def spLampM (K : PySem.W.Frag) (C : Addr) (spD : Sp) : Sp := fun vs H Q E => ∃ (h lt dx : Addr) (fs : List (Str × V)) (x y : Int) (c : List V), vs = [.ref h, .int x, .int y, .ref lt] ∧ SqT K H lt c ∧ c.length ≤ 100 ∧ H h = some (.ins C dx fs) ∧ fs.lookup ("do" : Str) = none ∧
  ∀ d, H d = none → spD [.ref h, .ref d] (upd H d (.tup (.str "lamp" :: .int x :: .int y :: c))) Q E
def spSwitchM (C : Addr) (spD : Sp) : Sp := fun vs H Q E => ∃ (h dx : Addr) (fs : List (Str × V)) (n : Int), vs = [.ref h, .int n] ∧ H h = some (.ins C dx fs) ∧ fs.lookup ("do" : Str) = none ∧ ∀ d, H d = none → spD [.ref h, .ref d] (upd H d (.tup [.str "switch", .int n])) Q E
section
variable {P : Program} {w : World} {K : PySem.W.Frag} {mg : Str → Option Value} {base : Heap} {f C : Addr} {fd : FuncData} {spD : Sp}
abbrev sLampM : Stmt := (inClass (Hs.top 103) 2)
theorem scLampM : FnScope ["self", "across", "up", "light"] ["self", "across", "up", "light"] (defScope sLampM) := ⟨rfl, rfl, rfl, by decide +kernel, rfl, by decide +kernel, by decide +kernel⟩
theorem ok_lampM {kws : List (Str × V)} (F : FunD K "lamp" "House.lamp" (defArgs sLampM) (defBody sLampM) (defScope sLampM) [] kws f fd) (M_do : MetX P w K mg base 7 C "do" ["self", "deed"] [] spD) : FnOk P w K mg base (L2.CX P w) 8 f fd ["self", "across", "up", "light"] (spLampM K C spD) := by
  have nd := scLampM.nd
  refine F.ok scLampM (fun vs H Q E h => ?_) (fun cdv A outer s H vs Q E hr h => ⟨_, (pss_one (ps_ret (Hs.pe_metX M_do hr (by decide) (passes_call (takes_of rfl rfl rfl rfl) (fun _ _ _ _ h => h)) (pv 0) (pa_cons (pe_tup (pa_cons pe_str (pa_cons (pv 1) (pa_cons (pv 2) (StX.pa_star (pv 3) pa_nil))))) pa_nil)))), ?_⟩)
  · obtain ⟨h, lt, dx, fs, x, y, c, rfl, _⟩ := h
    rfl
  · obtain ⟨h, lt, dx, fs, x, y, c, rfl, hc, hz, hh, hf, k⟩ := h
    refine ⟨_, rfl, h, dx, fs, rfl, hh, hf, _, rfl, _, rfl, _, rfl, lt, c, rfl, .inl hc, ?_, fun d hd => ?_⟩
    · rw [List.append_nil, sizeLine_eq]
      simp only [List.length_cons]
      omega
    · rw [List.append_nil]
      exact k d hd
abbrev sSwitchM : Stmt := (inClass (Hs.top 103) 7)
theorem scSwitchM : FnScope ["self", "number"] ["self", "number"] (defScope sSwitchM) := ⟨rfl, rfl, rfl, by decide +kernel, rfl, by decide +kernel, by decide +kernel⟩
theorem ok_switchM (F : FunD K "switch" "House.switch" (defArgs sSwitchM) (defBody sSwitchM) (defScope sSwitchM) [] [] f fd) (M_do : MetX P w K mg base 7 C "do" ["self", "deed"] [] spD) : FnOk P w K mg base (L2.CX P w) 8 f fd ["self", "number"] (spSwitchM C spD) := by
  have nd := scSwitchM.nd
  refine F.ok scSwitchM (fun vs H Q E h => ?_) (fun cdv A outer s H vs Q E hr h => ⟨_, (pss_one (ps_ret (Hs.pe_metX M_do hr (by decide) (passes_call (takes_of rfl rfl rfl rfl) (fun _ _ _ _ h => h)) (pv 0) (pa_cons (pe_tup (pa_cons pe_str (pa_cons (pv 1) pa_nil))) pa_nil)))), ?_⟩)
  · obtain ⟨h, dx, fs, n, rfl, _⟩ := h
    rfl
  · obtain ⟨h, dx, fs, n, rfl, hh, hf, k⟩ := h
    exact ⟨_, rfl, h, dx, fs, rfl, hh, hf, _, rfl, sz_of (by simp), fun d hd => k d hd⟩
end
end Hs
namespace Hs
open PySem PySem.Spec PyProof.Rows L2 Evl
theorem pe_own0 {X : Cx} {k j : Nat} {x : Str} {sp : Sp} {p pos : Pos} (O : Own X.prog X.w X.K X.mg X.base k x [] sp) (hr : Room j X.A) (hk : k ≤ j) (hg : Gl X x) (hdb : (x == ("__debug__" : Str)) = false := by decide) : PE X (.Call (.Name x p) [] [] pos) (tCall sp [] E0 tNil) := by
  obtain ⟨f, fd, F, m, kp, b⟩ := O.ex
  exact pe_call0 F (hr.mono hk) hg m kp b .nil pass0 hdb
/-- a bare floor at p -/
structure BareA (H : Hp) (p : Addr) : Prop where
  ex : ∃ q1 q2 q3, Fz H p [(.inr "lamp", .ref q1), (.inr "post", .ref q2), (.inr "pane", .ref q3)] ∧ Fz H q1 [] ∧ Fz H q2 [] ∧ Fz H q3 []
def spBare : Sp := fun vs H Q _ => vs = [] ∧ ∀ p H', H p = none → Ex H H' → BareA H' p → Q (.ref p) H'
section
variable {P : Program} {w : World} {K : PySem.W.Frag} {mg : Str → Option Value} {base : Heap} {f C S : Addr} {fd : FuncData}
abbrev sBare : Stmt := top 68
theorem scBare : FnScope ["sort"] [] (defScope sBare) := ⟨rfl, rfl, rfl, by decide +kernel, rfl, by decide +kernel, by decide +kernel⟩
def sortsS : List Str := ["lamp", "post", "pane"]
/-- the floor in the making: i of the three -/
def BareI (H0 H : Hp) (D : Addr) (i : Nat) : Prop := Ex H0 H ∧ ∃ qs : List Addr, qs.length = i ∧ (∀ q ∈ qs, Fz H q []) ∧ H D = some (.dK ((sortsS.zip qs).map fun z => ((Sum.inr z.1 : Key), V.ref z.2)))
theorem ok_bare (F : FnP K "bare_floor" sBare f fd) (g_SORTS : mg "SORTS" = some (.ref S) ∧ RelV (.ref S) (.ref S)) (hS : ∀ H, SqT K H S sortsV) : FnOk P w K mg base CX0 1 f fd [] spBare := by
  have nd := scBare.nd
  refine F.ok scBare (fun vs H Q E h => ?_) (fun cdv A outer s H vs Q E hr h => ⟨_, PSs.nox (pss_one (ps_ret (Hs.pe_frz (pe_dc (own := [("sort", 0)]) (g := (gName 0)) rfl nd (pi_tup (pe_glob (by rfl) g_SORTS.1 g_SORTS.2)) (blkOk_by (N := ["sort"]) (sc := defScope (Hs.top 68)) (by decide +kernel)) (fun _ _ _ _ _ => (pg_name (i := 0) nd rfl (Or.inl rfl))) (fun _ _ _ _ _ => pts_nil) (fun _ _ _ _ _ => (pv 0)) (fun _ _ _ _ _ => (Hs.pe_frz pe_dnewK)))))), ?_⟩)
  · rw [h.1] <;> rfl
  · obtain ⟨rfl, k⟩ := h
    refine ⟨S, rfl, ⟨_, hS H⟩, fun D hD => ?_⟩
    refine dc_tup (xs := sortsV) (fun i H' => BareI H H' D i) ⟨Ex.new hD, [], rfl, (fun q hq => by cases hq), upd_same⟩ (fun i H' _ _ => hS H') (fun i x H' hi p => ?_) (fun H' p => ?_)
    · obtain ⟨e, qs, hl, hq, hD'⟩ := p
      obtain ⟨so, rfl, hso⟩ : ∃ so, x = V.str so ∧ sortsS[i]? = some so := by
        match i, hi with
        | 0, hi => cases hi; exact ⟨_, rfl, rfl⟩
        | 1, hi => cases hi; exact ⟨_, rfl, rfl⟩
        | 2, hi => cases hi; exact ⟨_, rfl, rfl⟩
        | i + 3, hi => cases hi
      refine ⟨rfl, ?_⟩
      simp only [tYes, if_true]
      refine ⟨_, rfl, fun q hqn => ⟨q, _, rfl, upd_same, True.intro, fun od => ?_⟩⟩
      have nD : D ≠ q := ne_of_none hD' hqn
      have e1 : Ex H' (upd (upd H' q (.dK [])) q (.frz od (.dK []))) := Ex.mut (Ex.new hqn) hqn
      have hD1 := e1 _ _ hD'
      refine ⟨_, .inr so, rfl, hD1, ?_, Ex.mut (e.trans e1) hD, qs ++ [q], by rw [List.length_append, hl] <;> rfl, fun r hr => ?_, ?_⟩
      · rw [sizeLine_eq, List.length_map, List.length_zip]
        have : sortsS.length = 3 := rfl
        omega
      · have keep : ∀ {r : Addr}, Fz (upd (upd H' q (.dK [])) q (.frz od (.dK []))) r [] → Fz (upd (upd (upd H' q (.dK [])) q (.frz od (.dK []))) D (.dK (putK ((sortsS.zip qs).map fun z => ((Sum.inr z.1 : Key), V.ref z.2)) (.inr so) (.ref q)))) r [] := fun {r} ⟨o, h⟩ => ⟨o, by
          rw [upd_ne (ne_of h hD1 (by intro z; cases z))]
          exact h⟩
        rcases List.mem_append.mp hr with z | z
        · exact keep ((hq r z).ext e1)
        · rw [List.mem_singleton.mp z]
          exact keep ⟨od, upd_same⟩
      · rw [upd_same]
        match i, qs, hl, hso with
        | 0, [], _, hso => cases hso; rfl
        | 1, [a], _, hso => cases hso; rfl
        | 2, [a, b], _, hso => cases hso; rfl
        | i + 3, _, _, hso => cases hso
    · obtain ⟨e, qs, hl, hq, hD'⟩ := p
      obtain ⟨q1, q2, q3, rfl⟩ : ∃ q1 q2 q3, qs = [q1, q2, q3] := match qs, hl with
        | [q1, q2, q3], _ => ⟨q1, q2, q3, rfl⟩
      refine ⟨D, _, rfl, hD', True.intro, fun od => k D _ hD (Ex.mut e hD) ?_⟩
      have keep : ∀ {r : Addr}, Fz H' r [] → Fz (upd H' D (.frz od (.dK ((sortsS.zip [q1, q2, q3]).map fun z => ((Sum.inr z.1 : Key), V.ref z.2))))) r [] := fun {r} ⟨o, h⟩ => ⟨o, by
        rw [upd_ne (ne_of h hD' (by intro z; cases z))]
        exact h⟩
      exact ⟨q1, q2, q3, ⟨od, upd_same⟩, keep (hq q1 (by simp)), keep (hq q2 (by simp)), keep (hq q3 (by simp))⟩
end
end Hs
namespace Hs
open PySem PySem.Spec PyProof.Rows L2 Evl
def comingV : List (Key × V) := [(.inr "lamp", .int 1), (.inr "post", .int 1), (.inr "pane", .int 1), (.inr "look", .int 1)]
def bareV (q1 q2 q3 : Addr) : List (Key × V) := [(.inr "lamp", .ref q1), (.inr "post", .ref q2), (.inr "pane", .ref q3)]
/-- the first state, at s -/
structure FirstA (K : PySem.W.Frag) (H : Hp) (s : Addr) : Prop where
  ex : ∃ fl lk cm q1 q2 q3, H s = some (.tup [.ref fl, .ref lk, .ref cm]) ∧ Fz H fl (bareV q1 q2 q3) ∧ Fz H lk [] ∧ Fz H cm comingV ∧ Fz H q1 [] ∧ Fz H q2 [] ∧ Fz H q3 []
def spFirst (K : PySem.W.Frag) : Sp := fun vs H Q _ => vs = [] ∧ ∀ s H', H s = none → Ex H H' → FirstA K H' s → Q (.ref s) H'
/-- a new house at h -/
def spInit (K : PySem.W.Frag) (C : Addr) : Sp := fun vs H Q _ => ∃ h dx, vs = [.ref h] ∧ H h = some (.ins C dx []) ∧ ∀ (s p q : Addr) (H' : Hp), (∀ b o, H b = some o → b ≠ h → H' b = some o) → H' h = some (.ins C dx [("state", .ref s), ("past", .ref p), ("ahead", .ref q), ("trying", .bl false)]) → H p = none → H q = none → p ≠ q → H' p = some (.lst []) → H' q = some (.lst []) → FirstA K H' s → Q .non H'
section
variable {P : Program} {w : World} {K : PySem.W.Frag} {mg : Str → Option Value} {base : Heap} {f C : Addr} {fd : FuncData}
abbrev sFirst : Stmt := top 78
theorem scFirst : FnScope [] [] (defScope sFirst) := ⟨rfl, rfl, rfl, by decide +kernel, rfl, by decide +kernel, by decide +kernel⟩
theorem ok_first (F : FnP K "first_state" sFirst f fd) (O_bare_floor : Own P w K mg base 1 "bare_floor" [] spBare) : FnOk P w K mg base CX0 2 f fd [] (spFirst K) := by
  have nd := scFirst.nd
  refine F.ok scFirst (fun vs H Q E h => ?_) (fun cdv A outer s H vs Q E hr h => ⟨_, PSs.nox (pss_one (ps_ret (pe_tup (pa_cons (Hs.pe_own0 O_bare_floor hr (by first | decide | omega) (by rfl)) (pa_cons (Hs.pe_frz pe_dnewK) (pa_cons (Hs.pe_frz (pe_disp (pps_cons pe_str pe_int (pps_cons pe_str pe_int (pps_cons pe_str pe_int (pps_cons pe_str pe_int pps_nil)))) (by rfl) (by rfl) (by simp) (by decide))) pa_nil)))))), ?_⟩)
  · rw [h.1] <;> rfl
  · obtain ⟨rfl, k⟩ := h
    refine ⟨rfl, fun fl H1 hfl e1 hB lk hlk => ⟨lk, _, rfl, upd_same, True.intro, fun od1 cm hcm => ⟨upd_same, comingV, rfl, by decide, cm, _, rfl, upd_same, True.intro, fun od2 => ⟨sz_of (by simp), fun s hs => ?_⟩⟩⟩⟩
    have em : mergeK [] comingV = comingV := by rfl
    rw [em] at hs ⊢
    have x1 : Ex H1 (upd (upd H1 lk (.dK [])) lk (.frz od1 (.dK []))) := Ex.mut (Ex.new hlk) hlk
    have x2 : Ex (upd (upd H1 lk (.dK [])) lk (.frz od1 (.dK []))) (upd (upd (upd (upd (upd H1 lk (.dK [])) lk (.frz od1 (.dK []))) cm (.dK [])) cm (.dK comingV)) cm (.frz od2 (.dK comingV))) := Ex.mut (Ex.mut (Ex.new hcm) hcm) hcm
    have x3 := Ex.new (o := .tup [V.ref fl, .ref lk, .ref cm]) hs
    obtain ⟨q1, q2, q3, b0, b1, b2, b3⟩ := hB.ex
    have e23 := (x1.trans x2).trans x3
    have hlk2 : Fz (upd (upd H1 lk (.dK [])) lk (.frz od1 (.dK []))) lk [] := ⟨od1, upd_same⟩
    exact k s _ (fresh_back (e1.trans (x1.trans x2)) hs) (e1.trans e23) ⟨fl, lk, cm, q1, q2, q3, upd_same, b0.ext e23, hlk2.ext (x2.trans x3), Fz.ext ⟨od2, upd_same⟩ x3, b1.ext e23, b2.ext e23, b3.ext e23⟩
abbrev sInit : Stmt := (inClass (Hs.top 103) 0)
theorem scInit : FnScope ["self"] ["self"] (defScope sInit) := ⟨rfl, rfl, rfl, by decide +kernel, rfl, by decide +kernel, by decide +kernel⟩
theorem FirstA.keep {H H' : Hp} {s h dx : Addr} {fs : List (Str × V)} (ho : H h = some (.ins C dx fs)) (a : FirstA K H s) (e : ∀ b u, H b = some u → b ≠ h → H' b = some u) : FirstA K H' s := by
  obtain ⟨fl, lk, cm, q1, q2, q3, h1, h2, h3, h4, h5, h6, h7⟩ := a.ex
  have kf : ∀ {x : Addr} {kvs : List (Key × V)}, Fz H x kvs → Fz H' x kvs := fun ⟨od, hx⟩ => ⟨od, e _ _ hx (ne_of hx ho (by intro z; cases z))⟩
  exact ⟨fl, lk, cm, q1, q2, q3, e _ _ h1 (ne_of h1 ho (by intro z; cases z)), kf h2, kf h3, kf h4, kf h5, kf h6, kf h7⟩
theorem ok_init (F : FunD K "__init__" "House.__init__" (defArgs sInit) (defBody sInit) (defScope sInit) [] [] f fd) (hC : HouseC K C) (O_first_state : Own P w K mg base 2 "first_state" [] (spFirst K)) : FnOk P w K mg base CX0 3 f fd ["self"] (spInit K C) := by
  have nd := scInit.nd
  refine F.ok scInit (fun vs H Q E h => ?_) (fun cdv A outer s H vs Q E hr h => ⟨_, PSs.nox (pss_cons (ps_fld (pv 0) (Hs.pe_own0 O_first_state hr (by first | decide | omega) (by rfl)) (by rfl))
  (pss_cons (ps_fld (pv 0) (pe_lst pa_nil) (by rfl))
  (pss_cons (ps_fld (pv 0) (pe_lst pa_nil) (by rfl))
  (pss_one (ps_fld (pv 0) pe_bl (by rfl)))))), ?_⟩)
  · obtain ⟨h, dx, rfl, _⟩ := h
    rfl
  · obtain ⟨h, dx, rfl, hh, k⟩ := h
    refine ⟨rfl, fun s H1 hs e1 hF => ⟨_, rfl, h, C, dx, _, rfl, e1 _ _ hh, hC.c, hC.s, by decide, ?_⟩⟩
    have n1 : ∀ b u, H1 b = some u → b ≠ h → upd H1 h (.ins C dx (putF "state" (.ref s) [])) b = some u := fun b u hb hn => by
      rw [upd_ne hn]
      exact hb
    refine ⟨sz_of (by simp), fun p hp => ⟨_, rfl, h, C, dx, _, rfl, (Ex.new hp) _ _ upd_same, hC.c, hC.p, (show 1 < 1000 by decide), ?_⟩⟩
    refine ⟨sz_of (by simp), fun q hq => ⟨_, rfl, h, C, dx, _, rfl, (Ex.new hq) _ _ upd_same, hC.c, hC.a, (show 2 < 1000 by decide), ?_⟩⟩
    refine ⟨_, rfl, h, C, dx, _, rfl, upd_same, hC.c, hC.t, (show 3 < 1000 by decide), ?_⟩
    have nph : p ≠ h := fun z => by
      rw [z, upd_same] at hp
      cases hp
    have nqh : q ≠ h := fun z => by
      rw [z, upd_same] at hq
      cases hq
    have nqp : q ≠ p := fun z => by
      rw [z, upd_ne nph, upd_same] at hq
      cases hq
    have hp1 : H1 p = none := by
      rw [upd_ne nph] at hp
      exact hp
    have hq1 : H1 q = none := by
      rw [upd_ne nqh, upd_ne nqp, upd_ne nqh] at hq
      exact hq
    have all : ∀ b u, H1 b = some u → b ≠ h → upd (upd (upd (upd (upd (upd H1 h (.ins C dx (putF "state" (.ref s) []))) p (.lst [])) h (.ins C dx (putF "past" (.ref p) (putF "state" (.ref s) [])))) q (.lst [])) h (.ins C dx (putF "ahead" (.ref q) (putF "past" (.ref p) (putF "state" (.ref s) []))))) h (.ins C dx (putF "trying" (.bl false) (putF "ahead" (.ref q) (putF "past" (.ref p) (putF "state" (.ref s) []))))) b = some u := fun b u hb hn => by
      rw [upd_ne hn, upd_ne hn, upd_ne (ne_of_none hb hq1), upd_ne hn, upd_ne (ne_of_none hb hp1), upd_ne hn]
      exact hb
    refine k s p q _ (fun b o hb hn => all b o (e1 _ _ hb) hn) ?_ (fresh_back e1 hp1) (fresh_back e1 hq1) (Ne.symm nqp) ?_ ?_ (hF.keep (e1 _ _ hh) all)
    · rw [upd_same] <;> rfl
    · rw [upd_ne nph, upd_ne nph, upd_ne (Ne.symm nqp), upd_ne nph, upd_same]
    · rw [upd_ne nqh, upd_ne nqh, upd_same]
end
end Hs
namespace Hs
open PySem PySem.Spec PyProof.Rows L2 Evl
/-- lamps as they stand: how many choices each, on or off -/
def LampsA (H : Hp) (ts : List (Key × V)) (ls : List (Nat × Bool)) : Prop := ts.length = ls.length ∧ ∀ (i : Nat) (k : Key) (v : V) (n : Nat) (on : Bool), ts[i]? = some (k, v) → ls[i]? = some (n, on) → ∃ th ch cs, v = .ref th ∧ H th = some (.tup [.ref ch, .bl on]) ∧ H ch = some (.tup cs) ∧ cs.length = n
theorem LampsA.ext {H H' : Hp} {ts : List (Key × V)} {ls : List (Nat × Bool)} (h : LampsA H ts ls) (e : Ex H H') : LampsA H' ts ls := ⟨h.1, fun i k v n on h1 h2 => by
  obtain ⟨th, ch, cs, e1, e2, e3, e4⟩ := h.2 i k v n on h1 h2
  exact ⟨th, ch, cs, e1, e _ _ e2, e _ _ e3, e4⟩⟩
def cnts (ls : List (Nat × Bool)) : List Int := (ls.filter fun z => decide (1 < z.1)).map fun z => (z.1 : Int)
theorem cnts_len (ls : List (Nat × Bool)) : (cnts ls).length ≤ ls.length := by
  unfold cnts
  rw [List.length_map]
  exact List.length_filter_le ..
theorem cnts_next {ls : List (Nat × Bool)} {i n : Nat} {on : Bool} (h : ls[i]? = some (n, on)) : cnts (ls.take (i + 1)) = cnts (ls.take i) ++ if 1 < n then [(n : Int)] else [] := by
  unfold cnts
  rw [List.take_add_one, h, List.filter_append, List.map_append]
  congr 1
  by_cases hn : 1 < n
  · simp [hn]
  · simp [hn]
def spCounts (K : PySem.W.Frag) : Sp := fun vs H Q _ => ∃ (a : Addr) (ts : List (Key × V)) (ls : List (Nat × Bool)), vs = [.ref a] ∧ Fz H a ts ∧ LampsA H ts ls ∧ ts.length ≤ 1000 ∧ (∀ z ∈ ls, z.1 ≤ 1000) ∧ ∀ p H', H p = none → Ex H H' → H' p = some (.lst (iv (cnts ls))) → Q (.ref p) H'
section
variable {P : Program} {w : World} {K : PySem.W.Frag} {mg : Str → Option Value} {base : Heap} {f C : Addr} {fd : FuncData}
abbrev sCounts : Stmt := top 56
theorem scCounts : FnScope ["lamps", "choices", "on"] ["lamps"] (defScope sCounts) := ⟨rfl, rfl, rfl, by decide +kernel, rfl, by decide +kernel, by decide +kernel⟩
theorem ok_counts (F : FnP K "counts_of" sCounts f fd) (g_len : mg "len" = none) : FnOk P w K mg base CX0 1 f fd ["lamps"] (spCounts K) := by
  have nd := scCounts.nd
  refine F.ok scCounts (fun vs H Q E h => ?_) (fun cdv A outer s H vs Q E hr h => ⟨_, PSs.nox (pss_one (ps_ret (pe_lc (own := [("choices", 1), ("on", 2)]) (g := gTup K 2 (gCons (gName 1) (gCons (gName 2) gNil))) rfl nd (pi_values (pv 0)) (blkOk_by (N := ["lamps", "choices", "on"]) (sc := defScope (Hs.top 56)) (by decide +kernel)) (fun _ _ _ _ _ => (pg_tup rfl (pgs_cons (pg_name (i := 1) nd rfl (Or.inl rfl)) (pgs_cons (pg_name (i := 2) nd rfl (Or.inl rfl)) pgs_nil)))) (fun _ _ _ _ _ => (pts_one (pt_cmpR op_gt (pe_callB (r := Evl.rLenS K) call_len_seq (by rfl) g_len PySem.boot_len (pa_cons (pv 1) pa_nil)) pe_int (nomark _)))) (fun _ _ _ _ _ => (pe_callB (r := Evl.rLenS K) call_len_seq (by rfl) g_len PySem.boot_len (pa_cons (pv 1) pa_nil)))))), ?_⟩)
  · obtain ⟨a, ts, ls, rfl, _⟩ := h
    rfl
  · obtain ⟨a, ts, ls, rfl, ⟨od, ha⟩, hL, hz, hn, k⟩ := h
    refine ⟨_, rfl, a, od, ts, rfl, ha, fun D hD => ?_⟩
    refine lc_it walk_values (fun i H' => Ex H H' ∧ H' D = some (.lst (iv (cnts (ls.take i))))) ⟨Ex.new hD, upd_same⟩ (fun i H' _ p => p.1 _ _ ha) (fun i x H' H'' hi p y => ?_) (fun H' p => ?_)
    · obtain ⟨rfl, key, hx⟩ := y
      obtain ⟨e, hD'⟩ := p
      obtain ⟨⟨n, on⟩, hln⟩ : ∃ z, ls[i]? = some z := ⟨_, List.getElem?_eq_getElem (by rw [← hL.1]; exact hi)⟩
      obtain ⟨th, ch, cs, rfl, h1, h2, h3⟩ := (hL.ext e).2 i key x n on hx hln
      refine ⟨th, _, rfl, st_of h1, rfl, _, _, rfl, _, _, rfl, rfl, rfl, ?_⟩
      refine (et_test (ev_op (ev_lenQ (K := K) (ev_var rfl) (.inr (st_of h2))) ev_c rv_I0)) _ (Ex.refl _) _ fun H3 e3 => ?_
      have hD3 := e3 _ _ hD'
      have h23 := e3 _ _ h2
      by_cases hc : 1 < n
      · refine ite_T (decide_eq_true (by rw [h3]; omega)) ⟨_, rfl, ch, cs, rfl, .inr (st_of h23), _, hD3, ?_, Ex.mut (e.trans e3) hD, ?_⟩
        · rw [List.length_map]
          have := cnts_len (ls.take i)
          rw [List.length_take] at this
          rw [sizeLine_eq]
          omega
        · rw [upd_same, cnts_next hln, if_pos hc, h3]
          show some (HO.lst (iv (cnts (ls.take i)) ++ [V.int n])) = some (HO.lst (iv (cnts (ls.take i) ++ [(n : Int)])))
          rw [show iv (cnts (ls.take i) ++ [(n : Int)]) = iv (cnts (ls.take i)) ++ [V.int n] from List.map_append ..]
      · refine ite_F (decide_eq_false (by rw [h3]; omega)) ⟨e.trans e3, ?_⟩
        rw [cnts_next hln, if_neg hc, List.append_nil]
        exact hD3
    · refine k D H' hD p.1 ?_
      have z := p.2
      rw [hL.1, List.take_length] at z
      exact z
end
end Hs
namespace Hs
open PySem PySem.Spec PyProof.Rows L2 Evl
def spChecked (K : PySem.W.Frag) (cU cB : Addr) : Sp := fun vs H Q E => ∃ (a : Addr) (v : V) (ts : List (Key × V)) (ls : List (Nat × Bool)), vs = [.ref a, v] ∧ Fz H a ts ∧ LampsA H ts ls ∧ ts.length ≤ 1000 ∧ (∀ z ∈ ls, z.1 ≤ 1000) ∧ Cnt (cnts ls) ∧
  ((v = .non ∧ (cnts ls ≠ [] → Flies cU "unknown" H E) ∧ (cnts ls = [] → ∀ p H', H p = none → Ex H H' → H' p = some (.tup []) → Q (.ref p) H')) ∨
    ∃ (b : Addr) (r : List Int), v = .ref b ∧ SqT K H b (iv r) ∧ (¬ GoodR (cnts ls) r → Flies cB "badsetting" H E) ∧ (GoodR (cnts ls) r → RetV (.ref b) H Q))
section
variable {P : Program} {w : World} {K : PySem.W.Frag} {mg : Str → Option Value} {base : Heap} {f cU cB : Addr} {fd : FuncData}
abbrev sChecked : Stmt := top 58
theorem scChecked : FnScope ["lamps", "setting", "counts"] ["lamps", "setting"] (defScope sChecked) := ⟨rfl, rfl, rfl, by decide +kernel, rfl, by decide +kernel, by decide +kernel⟩
theorem ok_checked (F : FnP K "checked_setting" sChecked f fd) (O_counts_of : Own P w K mg base 1 "counts_of" ["lamps"] (spCounts K)) (O_row_number : OwnX P w K mg base 3 "row_number" ["counts", "row"] [] (spNum K cB)) (Er_Unknown : ErrF P w K mg base 1 "Unknown" cU "unknown") : FnOk P w K mg base (L2.CX P w) 4 f fd ["lamps", "setting"] (spChecked K cU cB) := by
  have nd := scChecked.nd
  refine F.ok scChecked (fun vs H Q E h => ?_) (fun cdv A outer s H vs Q E hr h => ⟨_, (pss_cons (ps_set (i := 2) nd rfl (.inl rfl) (Hs.pe_own O_counts_of hr (by first | decide | omega) (by rfl) (pa_cons (pv 0) pa_nil)))
  (pss_cons (ps_if (pt_cmpR op_isN (pv 1) pe_non (nomark _)) (pss_cons (ps_if (pt_truth (pv 2) (fun _ => rfl)) (pss_one (ps_raise rfl (takes_of rfl rfl rfl rfl) (Hs.pmk_err Er_Unknown hr (by decide) (by rfl)))) pss_nil)
  (pss_one (ps_ret (pe_tup pa_nil)))) pss_nil)
  (pss_cons (ps_expr (Hs.pe_ownT O_row_number hr (by decide) (by rfl) (passes_call (takes_of rfl rfl rfl rfl) (fun _ _ _ _ h => h)) (pa_cons (pv 2) (pa_cons (pv 1) pa_nil))))
  (pss_one (ps_ret (pv 1)))))), ?_⟩)
  · obtain ⟨a, v, ts, ls, rfl, _⟩ := h
    rfl
  · obtain ⟨a, v, ts, ls, rfl, ha, hL, hz, hn, hC, k⟩ := h
    refine ⟨_, rfl, a, ts, ls, rfl, ha, hL, hz, hn, fun p H1 hp e1 h1 => ?_⟩
    dsimp only [gName, List.set]
    rcases k with ⟨rfl, kE, k⟩ | ⟨b, r, rfl, hb, kE, k⟩
    · refine ⟨_, rfl, rfl, true, rfl, ite_T rfl ?_⟩
      refine ⟨_, rfl, !(iv (cnts ls)).isEmpty, .inl ⟨_, sq_of h1, rfl⟩, ?_⟩
      by_cases hc : cnts ls = []
      · refine ite_F (by rw [hc] <;> rfl) ⟨sz_of (by simp), fun q hq => k hc q _ (fresh_back e1 hq) (e1.trans (Ex.new hq)) upd_same⟩
      · refine ite_T ?_ ((kE hc).ext e1)
        cases hcs : cnts ls with
        | nil => exact absurd hcs hc
        | cons x xs => rfl
    · refine ⟨_, rfl, rfl, false, rfl, ite_F rfl ?_⟩
      refine ⟨_, rfl, _, rfl, p, b, cnts ls, r, rfl, .inl (sq_of h1), ex_t e1 hb, hC, fun h => (kE h).ext e1, fun h H2 e2 => ?_⟩
      exact ⟨_, rfl, k h H2 (e1.trans e2)⟩
end
end Hs
namespace Hs
open PySem PySem.Spec PyProof.Rows L2 Evl
def pval (ls : List (Nat × Bool)) (r : List Int) (j : Nat) : Int := if 1 < (ls.getD j (0, false)).1 then r.getD (cnts (ls.take j)).length 0 else 0
def pkV (ts : List (Key × V)) (ls : List (Nat × Bool)) (r : List Int) (i : Nat) : List (Key × V) := (List.range i).map fun j => ((ts.getD j (.inl 0, .non)).1, V.int (pval ls r j))
theorem putK_new {kvs : List (Key × V)} {k : Key} {v : V} (h : ∀ p ∈ kvs, p.1 ≠ k) : putK kvs k v = kvs ++ [(k, v)] := by
  unfold putK
  rw [if_neg]
  rw [List.any_eq_true]
  rintro ⟨p, hp, e⟩
  exact h p hp (of_decide_eq_true e)
theorem pkV_next {ts : List (Key × V)} {ls : List (Nat × Bool)} {r : List Int} {i : Nat} {k : Key} {v : V} (hn : (ts.map (·.1)).Nodup) (h : ts[i]? = some (k, v)) : putK (pkV ts ls r i) k (.int (pval ls r i)) = pkV ts ls r (i + 1) := by
  have hi : i < ts.length := (List.getElem?_eq_some_iff.mp h).1
  rw [putK_new]
  · unfold pkV
    rw [List.range_succ, List.map_append, List.map_singleton, List.getD_eq_getElem?_getD (i := i), h] <;> rfl
  · intro p hp e
    unfold pkV at hp
    obtain ⟨j, hj, rfl⟩ := List.mem_map.mp hp
    have hj := List.mem_range.mp hj
    have e2 : (ts.map (·.1))[j]? = (ts.map (·.1))[i]? := by
      rw [List.getElem?_map, List.getElem?_map, h, List.getElem?_eq_getElem (by omega)]
      have e3 : (ts.getD j (.inl 0, .non)).1 = k := e
      rw [List.getD_eq_getElem?_getD, List.getElem?_eq_getElem (by omega)] at e3
      show some (ts[j]).1 = some k
      rw [← e3] <;> rfl
    have := (List.getElem?_inj (by rw [List.length_map]; omega) hn).mp e2
    omega
theorem cnts_app (a b : List (Nat × Bool)) : cnts (a ++ b) = cnts a ++ cnts b := by
  unfold cnts
  rw [List.filter_append, List.map_append]
def spPicks (K : PySem.W.Frag) : Sp := fun vs H Q _ => ∃ (a b : Addr) (ts : List (Key × V)) (ls : List (Nat × Bool)) (r : List Int), vs = [.ref a, .ref b] ∧ Fz H a ts ∧ LampsA H ts ls ∧ (ts.map (·.1)).Nodup ∧ ts.length ≤ 1000 ∧ SqT K H b (iv r) ∧ r.length = (cnts ls).length ∧
  ∀ p H', H p = none → Ex H H' → H' p = some (.dK (pkV ts ls r ts.length)) → Q (.ref p) H'
section
variable {P : Program} {w : World} {K : PySem.W.Frag} {mg : Str → Option Value} {base : Heap} {f C : Addr} {fd : FuncData}
abbrev sPicks : Stmt := top 59
theorem scPicks : FnScope ["lamps", "setting", "picks", "used", "number", "choices", "on"] ["lamps", "setting"] (defScope sPicks) := ⟨rfl, rfl, rfl, by decide +kernel, rfl, by decide +kernel, by decide +kernel⟩
theorem ok_picks (F : FnP K "picks_of" sPicks f fd) (g_len : mg "len" = none) : FnOk P w K mg base CX0 1 f fd ["lamps", "setting"] (spPicks K) := by
  have nd := scPicks.nd
  refine F.ok scPicks (fun vs H Q E h => ?_) (fun cdv A outer s H vs Q E hr h => ⟨_, PSs.nox (pss_cons (ps_set (i := 2) nd rfl (.inl rfl) pe_dnewK)
  (pss_cons (ps_set (i := 3) nd rfl (.inl rfl) pe_int)
  (pss_cons (ps_for PassesOwn.never rfl (pi_items (pv 0)) (pg_tup rfl (pgs_cons (pg_name (i := 4) nd rfl (.inl rfl)) (pgs_cons (pg_tup rfl (pgs_cons (pg_name (i := 5) nd rfl (.inl rfl)) (pgs_cons (pg_name (i := 6) nd rfl (.inl rfl)) pgs_nil))) pgs_nil))) (pss_one (ps_if (pt_cmpR op_gt (pe_callB (r := Evl.rLenS K) call_len_seq (by rfl) g_len PySem.boot_len (pa_cons (pv 5) pa_nil)) pe_int (nomark _)) (pss_cons (ps_dput (Hs.un1 hr) (pv 2) (pv 4) (pe_ix (r := rIxT K) ix_tup (pv 1) (pv 3) (fun _ _ => rfl)) (by rfl))
  (pss_one (ps_aug (i := 3) nd rfl (.inl rfl) pe_int ip_add))) (pss_one (ps_dput (Hs.un1 hr) (pv 2) (pv 4) pe_int (by rfl))))))
  (pss_one (ps_ret (pv 2)))))), ?_⟩)
  · obtain ⟨a, b, ts, ls, r, rfl, _⟩ := h
    rfl
  · obtain ⟨a, b, ts, ls, r, rfl, ⟨od, ha⟩, hL, hn, hz, hb, hr1, k⟩ := h
    refine fun p hp => ?_
    dsimp only [gName, List.set]
    refine q_asg ev_c fun H1 e1 => ?_
    have xp := Ex.new (o := .dK []) hp
    have hp1 := e1 p _ (upd_same (H := H) (a := p) (o := .dK []))
    have e01 := xp.trans e1
    refine ⟨_, rfl, a, od, ts, rfl, e01 _ _ ha, ?_⟩
    refine for_it walk_items (fun i σ' H' => Ex H H' ∧ H' p = some (.dK (pkV ts ls r i)) ∧ ∃ v4 v5 v6, σ' = [some (.ref a), some (.ref b), some (.ref p), some (.int ((cnts (ls.take i)).length : Int)), v4, v5, v6]) ⟨e01, hp1, none, none, none, rfl⟩ (fun i σ' H' _ q => q.1 _ _ ha) (fun i x σ' H' H'' hi q y => ?_) (fun σ' H' q => ?_)
    · obtain ⟨e, hpi, v4, v5, v6, rfl⟩ := q
      obtain ⟨T, x1, x2, rfl, hT, rfl, f1, f2⟩ := y
      obtain ⟨⟨key, v⟩, hkv⟩ : ∃ z, ts[i]? = some z := ⟨_, List.getElem?_eq_getElem hi⟩
      obtain ⟨⟨n, on⟩, hln⟩ : ∃ z, ls[i]? = some z := ⟨_, List.getElem?_eq_getElem (by rw [← hL.1]; exact hi)⟩
      dsimp only at f1 f2
      rw [hkv] at f1 f2
      cases f1
      cases f2
      have eT := Ex.new (o := .tup [kV key, v]) hT
      obtain ⟨th, ch, cs, rfl, h1, h2, h3⟩ := (hL.ext (e.trans eT)).2 i key v n on hkv hln
      refine ⟨T, _, rfl, st_of upd_same, rfl, _, _, rfl, _, _, rfl, ⟨th, _, rfl, st_of h1, rfl, _, _, rfl, _, _, rfl, rfl, rfl, ?_⟩⟩
      have hpT := eT _ _ hpi
      have hlen : (pkV ts ls r i).length < sizeLine := by
        unfold pkV
        rw [List.length_map, List.length_range, sizeLine_eq]
        omega
      have hls : ls.getD i (0, false) = (n, on) := by rw [List.getD_eq_getElem?_getD, hln] <;> rfl
      have hnx := cnts_next hln
      refine s_if (et_test (ev_op (ev_lenQ (K := K) (ev_var rfl) (.inr (st_of h2))) ev_c rv_I0)) (fun ht H3 e3 => ?_) (fun ht H3 e3 => ?_)
      · have hc : 1 < n := by
          have := of_decide_eq_true ht
          rw [h3] at this
          omega
        have hu : (cnts (ls.take i)).length < r.length := by
          have e1 : cnts ls = cnts (ls.take (i + 1)) ++ cnts (ls.drop (i + 1)) := by rw [← cnts_app, List.take_append_drop]
          rw [hr1, e1, hnx, if_pos hc, List.length_append, List.length_append]
          simp
          omega
        have hpv : pval ls r i = r.getD (cnts (ls.take i)).length 0 := by
          unfold pval
          rw [hls, if_pos hc]
        have hat : atI (iv r) ((cnts (ls.take i)).length : Int) = some (.int (pval ls r i)) := by
          refine atI_nat ?_
          rw [List.getElem?_map, List.getElem?_eq_getElem hu, hpv, List.getD_eq_getElem?_getD, List.getElem?_eq_getElem hu] <;> rfl
        refine ⟨_, rfl, _, rfl, b, _, _, _, rfl, rfl, ex_t ((e.trans eT).trans e3) hb, hat, _, rfl, _, rfl, p, _, rfl, DPut.k (e3 _ _ hpT) hlen, ?_⟩
        refine s_aug (a := ((cnts (ls.take i)).length : Int)) rfl ev_c fun H5 e5 => ⟨(Ex.mut ((e.trans eT).trans e3) hp).trans e5, ?_, some (kV key), some (.ref ch), some (.bl on), ?_⟩
        · refine e5 _ _ ?_
          rw [upd_same, pkV_next hn hkv]
        · rw [hnx, if_pos hc, List.length_append]
          rfl
      · have hc : ¬ 1 < n := by
          have := of_decide_eq_false ht
          rw [h3] at this
          omega
        have hpv : pval ls r i = 0 := by
          unfold pval
          rw [hls, if_neg hc]
        refine ⟨_, rfl, _, rfl, p, _, rfl, DPut.k (e3 _ _ hpT) hlen, Ex.mut ((e.trans eT).trans e3) hp, ?_, some (kV key), some (.ref ch), some (.bl on), ?_⟩
        · rw [upd_same, ← pkV_next hn hkv, hpv]
        · rw [hnx, if_neg hc, List.append_nil]
          rfl
    · obtain ⟨e, hpi, v4, v5, v6, rfl⟩ := q
      exact s_ret (ev_var rfl) fun H3 e3 => k p H3 hp (e.trans e3) (e3 _ _ hpi)
end
end Hs
namespace Hs
open PySem PySem.Spec PyProof.Rows L2 Evl
/-- no post, no pane: no figures -/
def spFigs0 : Sp := fun vs H Q _ => ∃ (a q2 q3 : Addr) (kvs : List (Key × V)), vs = [.ref a] ∧ Fz H a kvs ∧ valV kvs (.inr "post") = some (.ref q2) ∧ valV kvs (.inr "pane") = some (.ref q3) ∧ Fz H q2 [] ∧ Fz H q3 [] ∧ ∀ p H', H p = none → Ex H H' → H' p = some (.lst []) → Q (.ref p) H'
section
variable {P : Program} {w : World} {K : PySem.W.Frag} {mg : Str → Option Value} {base : Heap} {f C : Addr} {fd : FuncData}
abbrev sFigs : Stmt := top 41
theorem scFigs : FnScope ["floor", "sort", "number", "thing"] ["floor"] (defScope sFigs) := ⟨rfl, rfl, rfl, by decide +kernel, rfl, by decide +kernel, by decide +kernel⟩
theorem ok_figs0 (F : FnP K "figures_of" sFigs f fd) : FnOk P w K mg base CX0 1 f fd ["floor"] spFigs0 := by
  have nd := scFigs.nd
  refine F.ok scFigs (fun vs H Q E h => ?_) (fun cdv A outer s H vs Q E hr h => ⟨_, PSs.nox (pss_one (ps_ret (pe_lc2 (own := [("sort", 1), ("number", 2), ("thing", 3)]) (vs1 := [2, 3]) (g := (gName 1)) (g1 := (gTup K 2 (gCons (gName 2) (gCons (gName 3) gNil)))) rfl nd (pi_tup (pe_tup (pa_cons pe_str (pa_cons pe_str pa_nil)))) (blkOk_by (N := ["floor", "sort", "number", "thing"]) (sc := defScope (Hs.top 41)) (by decide +kernel)) (by decide) (fun _ _ _ _ _ => (pg_name (i := 1) nd rfl (Or.inl rfl))) (fun _ _ _ _ _ => pts_nil) (fun _ _ _ _ _ => (pi_items (pe_dget (Hs.un1 hr) (pv 0) (pv 1) (fun _ _ => rfl)))) (fun _ _ _ _ _ => (pg_tup rfl (pgs_cons (pg_name (i := 2) nd rfl (Or.inl rfl)) (pgs_cons (pg_name (i := 3) nd rfl (Or.inl rfl)) pgs_nil)))) (fun _ _ _ _ _ => pts_nil) (fun _ _ _ _ _ => (pe_tup (pa_cons (pv 1) (pa_cons (pv 2) (pa_cons (pv 3) pa_nil)))))))), ?_⟩)
  · obtain ⟨a, q2, q3, kvs, rfl, _⟩ := h
    rfl
  · obtain ⟨a, q2, q3, kvs, rfl, ha, v2, v3, h2, h3, k⟩ := h
    refine ⟨sz_of (by simp), fun tp htp => ⟨tp, rfl, ⟨_, st_of upd_same⟩, fun D hD => ?_⟩⟩
    have x1 := Ex.new (o := .tup [V.str "post", .str "pane"]) htp
    have x2 := Ex.new (o := .lst []) hD
    have htp1 := upd_same (H := H) (a := tp) (o := .tup [V.str "post", .str "pane"])
    refine ⟨fun i m H' => (Ex (upd H tp (.tup [V.str "post", .str "pane"])) H' ∧ H' D = some (.lst [])) ∧ i ≤ 2 ∧ m = 2 - i, ⟨_, ⟨x2, upd_same⟩, Nat.zero_le _, rfl⟩, ?_⟩
    rintro i m H' ⟨⟨e, hD'⟩, hi, rfl⟩
    have htp' := e _ _ htp1
    by_cases hlt : i < 2
    · obtain ⟨so, q, hso, hv, hq⟩ : ∃ (so : Str) (q : Addr), [V.str "post", .str "pane"][i]? = some (.str so) ∧ valV kvs (.inr so) = some (.ref q) ∧ Fz H q [] := by
        match i, hlt with
        | 0, _ => exact ⟨_, q2, rfl, v2, h2⟩
        | 1, _ => exact ⟨_, q3, rfl, v3, h3⟩
      refine .inr ⟨⟨_, _, st_of htp', hso⟩, fun H2 => Ex (upd H tp (.tup [V.str "post", .str "pane"])) H2 ∧ H2 D = some (.lst []), fun H2 z => ⟨2 - (i + 1), by omega, z, by omega, rfl⟩, fun x H2 hy => ?_⟩
      obtain ⟨rfl, hy⟩ := hy
      have ex : some x = some (V.str so) := (hy _ (st_of htp')).symm.trans hso
      cases ex
      refine ⟨rfl, ?_⟩
      simp only [tYes, if_true]
      obtain ⟨od, hq'⟩ := (hq.ext x1).ext e
      refine ⟨_, rfl, _, rfl, a, _, rfl, by have z := ((ha.ext x1).ext e).get (k := .inr so); rw [hv] at z; exact z, q, od, [], rfl, hq', ?_⟩
      refine ⟨fun j m H3 => j = 0 ∧ H3 = H2, ⟨0, rfl, rfl⟩, ?_⟩
      rintro j m H3 ⟨rfl, rfl⟩
      exact .inl ⟨⟨hq', Nat.le_refl _⟩, e, hD'⟩
    · have ei : i = 2 := by omega
      subst ei
      exact .inl ⟨⟨_, st_of htp', Nat.le_refl _⟩, k D H' (fresh_back x1 hD) (x1.trans e) hD'⟩
end
end Hs
namespace Hs
open PySem PySem.Spec PyProof.Rows L2 Evl
/-- nothing stands in the way: all colours pass -/
def spLetAll0 (K : PySem.W.Frag) : Sp := fun vs H Q _ => ∃ (a : Addr) (v : V), vs = [.ref a, v] ∧ SqL K H a [] ∧ RetV (.str "rgb") H Q
section
variable {P : Program} {w : World} {K : PySem.W.Frag} {mg : Str → Option Value} {base : Heap} {f C : Addr} {fd : FuncData}
abbrev sLetAll : Stmt := top 43
theorem scLetAll : FnScope ["figures", "way", "sift", "sort", "number", "thing"] ["figures", "way"] (defScope sLetAll) := ⟨rfl, rfl, rfl, by decide +kernel, rfl, by decide +kernel, by decide +kernel⟩
theorem ok_letAll0 (F : FnP K "let_by_all" sLetAll f fd) (g_ALL_COLOURS : ∃ u, mg "ALL_COLOURS" = some u ∧ RelV (.str "rgb") u) : FnOk P w K mg base CX0 1 f fd ["figures", "way"] (spLetAll0 K) := by
  have nd := scLetAll.nd
  obtain ⟨uA, g_ALL_COLOURS⟩ := g_ALL_COLOURS
  refine F.ok scLetAll (fun vs H Q E h => ?_) (fun cdv A outer s H vs Q E hr h => ⟨_, PSs.nox (pss_cons (ps_set (i := 2) nd rfl (.inl rfl) (pe_glob (by rfl) g_ALL_COLOURS.1 g_ALL_COLOURS.2))
  (pss_cons (ps_for PassesOwn.never rfl (pi_list (pv 0)) (pg_tup rfl (pgs_cons (pg_name (i := 3) nd rfl (.inl rfl)) (pgs_cons (pg_name (i := 4) nd rfl (.inl rfl)) (pgs_cons (pg_name (i := 5) nd rfl (.inl rfl)) pgs_nil)))) (pss_cons ps_never
  (pss_one ps_never)))
  (pss_one (ps_ret (pv 2))))), ?_⟩)
  · obtain ⟨a, v, rfl, _⟩ := h
    rfl
  · obtain ⟨a, v, rfl, hS, k⟩ := h
    refine q_asg ev_c fun H1 e1 => ?_
    refine q_forL (ev_var rfl) (ex_l e1 hS) (fun i σ' H' => Ex H1 H' ∧ σ' = [some (.ref a), some v, some (.str "rgb"), none, none, none]) (fun H2 e2 => ⟨e2, rfl⟩) (fun i σ' H' _ p => ex_l (e1.trans p.1) hS) (fun i x σ' H' hx p => by cases hx) (fun σ' H' p => ?_)
    obtain ⟨e2, rfl⟩ := p
    exact s_ret (ev_var rfl) fun H3 e3 => k H3 ((e1.trans e2).trans e3)
end
end Hs
namespace Hs
open PySem PySem.Spec PyProof.Rows L2 Evl
def siftsV : List V := [.str "", .str "r", .str "g", .str "b", .str "rg", .str "rb", .str "gb", .str "rgb"]
def good (z : Str) : Bool := inV (.str z) siftsV
def spCheck (C : Addr) : Sp := fun vs H Q E => ∃ z : Str, vs = [.str z] ∧ (good z = false → Flies C "badsift" H E) ∧ (good z = true → RetV .non H Q)
section
variable {P : Program} {w : World} {K : PySem.W.Frag} {mg : Str → Option Value} {base : Heap} {f C S : Addr} {fd : FuncData}
abbrev sCheck : Stmt := top 35
theorem scCheck : FnScope ["sift"] ["sift"] (defScope sCheck) := ⟨rfl, rfl, rfl, by decide +kernel, rfl, by decide +kernel, by decide +kernel⟩
theorem ok_check (F : FnP K "check_sift" sCheck f fd) (Er_BadSift : ErrF P w K mg base 1 "BadSift" C "badsift") (g_SIFTS : mg "SIFTS" = some (.ref S) ∧ RelV (.ref S) (.ref S)) (hS : ∀ H, SqT K H S siftsV) : FnOk P w K mg base (L2.CX P w) 3 f fd ["sift"] (spCheck C) := by
  have nd := scCheck.nd
  refine F.ok scCheck (fun vs H Q E h => ?_) (fun cdv A outer s H vs Q E hr h => ⟨_, (pss_one (ps_if (pt_cmpR op_notIn_seq (pv 0) (pe_glob (by rfl) g_SIFTS.1 g_SIFTS.2) (by rfl)) (pss_one (ps_raise rfl (takes_of rfl rfl rfl rfl) (Hs.pmk_err Er_BadSift hr (by decide) (by rfl)))) pss_nil)), ?_⟩)
  · obtain ⟨z, rfl, _⟩ := h
    rfl
  · obtain ⟨z, rfl, kE, k⟩ := h
    refine ⟨_, rfl, S, siftsV, rfl, .inr (hS H), rfl, by decide, ?_⟩
    cases hg : good z with
    | true =>
      have hg' : inV (.str z) siftsV = true := hg
      refine ⟨_, rfl, ite_F (by rw [hg'] <;> rfl) ?_⟩
      exact k hg H (Ex.refl H)
    | false =>
      have hg' : inV (.str z) siftsV = false := hg
      refine ⟨_, rfl, ite_T (by rw [hg'] <;> rfl) ?_⟩
      exact kE hg
/-! ### a light sifted -/
abbrev Tri := Int × Int × Int
def tri (x : Tri) : List V := [.int x.1, .int x.2.1, .int x.2.2]
/-- whether the letter stands in the text -/
def has (c : Nat) (z : Str) : Bool := decide (c ∈ z.cps.toList)
def pick (c : Nat) (z : Str) (i : Int) : Int := if has c z = true then i else 0
def siftT (x : Tri) (z : Str) : Tri := (pick 114 z x.1, pick 103 z x.2.1, pick 98 z x.2.2)
def spSifted (K : PySem.W.Frag) (C : Addr) : Sp := fun vs H Q E => ∃ (a : Addr) (x : Tri) (z : Str), vs = [.ref a, .str z] ∧ SqT K H a (tri x) ∧ (good z = false → Flies C "badsift" H E) ∧ (good z = true → RetU (tri (siftT x z)) H Q)
theorem ev_pick {σ : L2.St} {H : Hp} {c : Nat} {z : Str} {i : Int} {l : Str} {ti tz : TE} (hl : l = ⟨#[c]⟩) (hz : Ev tz σ H (.str z)) (hi : Ev ti σ H (.int i)) : Ev (tIf (tTest (tOp rHas (tC (.str l)) tz)) ti (tC (.int 0))) σ H (.int (pick c z i)) := by
  refine ev_if (b := has c z) (et_test (ev_op ev_c hz fun H1 _ Q q => ⟨c, z, by rw [hl], rfl, q H1 (Ex.refl H1)⟩)) (fun hb => ?_) (fun hb => ?_)
  · exact ev_is hi (by rw [pick, if_pos hb])
  · exact ev_is ev_c (by rw [pick, if_neg (by rw [hb]; exact Bool.false_ne_true)])
abbrev sSifted : Stmt := top 36
theorem scSifted : FnScope ["light", "sift", "red", "green", "blue"] ["light", "sift"] (defScope sSifted) := ⟨rfl, rfl, rfl, by decide +kernel, rfl, by decide +kernel, by decide +kernel⟩
theorem ok_sifted (F : FnP K "sifted" sSifted f fd) (O_check_sift : OwnX P w K mg base 3 "check_sift" ["sift"] [] (spCheck C)) : FnOk P w K mg base (L2.CX P w) 4 f fd ["light", "sift"] (spSifted K C) := by
  have nd := scSifted.nd
  refine F.ok scSifted (fun vs H Q E h => ?_) (fun cdv A outer s H vs Q E hr h => ⟨_, (pss_cons (ps_expr (Hs.pe_ownT O_check_sift hr (by decide) (by rfl) (passes_call (takes_of rfl rfl rfl rfl) (fun _ _ _ _ h => h)) (pa_cons (pv 1) pa_nil)))
  (pss_cons (ps_asg (pv 0) (pg_tup rfl (pgs_cons (pg_name (i := 2) nd rfl (.inl rfl)) (pgs_cons (pg_name (i := 3) nd rfl (.inl rfl)) (pgs_cons (pg_name (i := 4) nd rfl (.inl rfl)) pgs_nil)))))
  (pss_one (ps_ret (pe_tup (pa_cons (pe_ifExp (pt_cmpR (Hs.op_has) pe_str (pv 1) (by rfl)) (pv 2) pe_int) (pa_cons (pe_ifExp (pt_cmpR (Hs.op_has) pe_str (pv 1) (by rfl)) (pv 3) pe_int) (pa_cons (pe_ifExp (pt_cmpR (Hs.op_has) pe_str (pv 1) (by rfl)) (pv 4) pe_int) pa_nil)))))))), ?_⟩)
  · obtain ⟨a, x, z, rfl, _⟩ := h
    rfl
  · obtain ⟨a, x, z, rfl, hx, kE, k⟩ := h
    refine ⟨_, rfl, z, rfl, fun hg => kE hg, fun hg H1 e1 => ?_⟩
    refine ⟨_, rfl, a, _, rfl, ex_t e1 hx, rfl, _, _, rfl, _, _, rfl, _, _, rfl, rfl, ?_⟩
    refine s_retU (eu_tup (ea_cons (ev_pick (c := 114) rfl (ev_var rfl) (ev_var rfl)) (ea_cons (ev_pick (c := 103) rfl (ev_var rfl) (ev_var rfl)) (ea_cons (ev_pick (c := 98) rfl (ev_var rfl) (ev_var rfl)) ea_nil))) (by simp)) fun p H2 hp e2 h2 => ?_
    exact k hg p H2 (fresh_back e1 hp) (e1.trans e2) h2
/-! ### sums of lights -/
def sum3 (xs : List Tri) : Tri := (((xs.map (·.1)).sum), ((xs.map (·.2.1)).sum), ((xs.map (·.2.2)).sum))
/-- lights that stand: of each its object -/
def Lights (K : PySem.W.Frag) (H : Hp) (ps : List Addr) (xs : List Tri) : Prop := ps.length = xs.length ∧ ∀ (i : Nat) (p : Addr) (x : Tri), ps[i]? = some p → xs[i]? = some x → SqT K H p (tri x)
def spSummedL (K : PySem.W.Frag) : Sp := fun vs H Q _ => ∃ (a : Addr) (ps : List Addr) (xs : List Tri), vs = [.ref a] ∧ SqL K H a (ps.map V.ref) ∧ Lights K H ps xs ∧ RetU (tri (sum3 xs)) H Q
abbrev sSummed : Stmt := top 37
theorem scSummed : FnScope ["lights", "red", "green", "blue", "light"] ["lights"] (defScope sSummed) := ⟨rfl, rfl, rfl, by decide +kernel, rfl, by decide +kernel, by decide +kernel⟩
theorem sum_take {f : Tri → Int} {xs : List Tri} {i : Nat} {x : Tri} (h : xs[i]? = some x) : ((xs.take (i + 1)).map f).sum = ((xs.take i).map f).sum + f x := by
  rw [List.take_add_one, h]
  simp
theorem ok_summedL (F : FnP K "summed" sSummed f fd) {D : Addr} (g_DARK : mg "DARK" = some (.ref D) ∧ RelV (.ref D) (.ref D)) (hD : ∀ H, SqT K H D (tri (0, 0, 0))) : FnOk P w K mg base CX0 1 f fd ["lights"] (spSummedL K) := by
  have nd := scSummed.nd
  refine F.ok scSummed (fun vs H Q E h => ?_) (fun cdv A outer s H vs Q E hr h => ⟨_, PSs.nox (pss_cons (ps_asg (pe_glob (by rfl) g_DARK.1 g_DARK.2) (pg_tup rfl (pgs_cons (pg_name (i := 1) nd rfl (.inl rfl)) (pgs_cons (pg_name (i := 2) nd rfl (.inl rfl)) (pgs_cons (pg_name (i := 3) nd rfl (.inl rfl)) pgs_nil)))))
  (pss_cons (ps_for PassesOwn.never rfl (pi_list (pv 0)) (pg_name (i := 4) nd rfl (.inl rfl)) (pss_cons (ps_aug (i := 1) nd rfl (.inl rfl) (pe_ix (r := rIxT K) ix_tup (pv 4) pe_int (fun _ _ => rfl)) ip_add)
  (pss_cons (ps_aug (i := 2) nd rfl (.inl rfl) (pe_ix (r := rIxT K) ix_tup (pv 4) pe_int (fun _ _ => rfl)) ip_add)
  (pss_one (ps_aug (i := 3) nd rfl (.inl rfl) (pe_ix (r := rIxT K) ix_tup (pv 4) pe_int (fun _ _ => rfl)) ip_add)))))
  (pss_one (ps_ret (pe_tup (pa_cons (pv 1) (pa_cons (pv 2) (pa_cons (pv 3) pa_nil)))))))), ?_⟩)
  · obtain ⟨a, ps, xs, rfl, _⟩ := h
    rfl
  · obtain ⟨a, ps, xs, rfl, hS, ⟨hl, hL⟩, k⟩ := h
    refine ⟨D, _, rfl, hD H, rfl, _, _, rfl, _, _, rfl, _, _, rfl, rfl, ?_⟩
    show tSeq (tFor (iList K (tVar 0)) _ _) _ _ [some (.ref a), some (.int 0), some (.int 0), some (.int 0), none] H
    refine q_forL (a := a) (xs := ps.map V.ref) ?_ hS (fun i σ' H' => Ex H H' ∧ ∃ v : Option V, σ' = [some (.ref a), some (.int (sum3 (xs.take i)).1), some (.int (sum3 (xs.take i)).2.1), some (.int (sum3 (xs.take i)).2.2), v]) ?_ ?_ ?_ ?_
    · exact ev_var rfl
    · intro H1 e1
      exact ⟨e1, none, rfl⟩
    · rintro i σ' H' _ ⟨e, _⟩
      exact ex_l e hS
    · rintro i x σ' H' hx ⟨e, v, rfl⟩
      rw [List.getElem?_map] at hx
      obtain ⟨p, hp, rfl⟩ := Option.map_eq_some_iff.mp hx
      obtain ⟨y, hy⟩ : ∃ y, xs[i]? = some y := by
        have : i < xs.length := by
          rw [← hl]
          exact (List.getElem?_eq_some_iff.mp hp).1
        exact ⟨_, List.getElem?_eq_getElem this⟩
      have hy1 := ex_t e (hL i p y hp hy)
      refine q_aug (f := fun i j => i + j) rfl (ev_ixt rfl hy1 rfl) fun H2 e2 => ?_
      refine q_aug (f := fun i j => i + j) rfl (ev_ixt rfl (ex_t e2 hy1) rfl) fun H3 e3 => ?_
      refine s_aug (f := fun i j => i + j) rfl (ev_ixt rfl (ex_t (e2.trans e3) hy1) rfl) fun H4 e4 => ⟨((e.trans e2).trans e3).trans e4, some (.ref p), ?_⟩
      have t1 := sum_take (f := fun z => z.1) hy
      have t2 := sum_take (f := fun z => z.2.1) hy
      have t3 := sum_take (f := fun z => z.2.2) hy
      show _ = [_, some (V.int ((xs.take (i + 1)).map (fun z => z.1)).sum), some (V.int ((xs.take (i + 1)).map (fun z => z.2.1)).sum), some (V.int ((xs.take (i + 1)).map (fun z => z.2.2)).sum), _]
      rw [t1, t2, t3]
      rfl
    · rintro σ' H' ⟨e, v, rfl⟩
      rw [List.length_map, hl, List.take_length]
      exact s_retU (eu_tup (ea_cons (ev_var rfl) (ea_cons (ev_var rfl) (ea_cons (ev_var rfl) ea_nil))) (by simp)) fun p H2 hp e2 h2 => k p H2 (fresh_back e hp) (e.trans e2) h2
def spSummedT (K : PySem.W.Frag) : Sp := fun vs H Q _ => ∃ (a : Addr) (ps : List Addr) (xs : List Tri), vs = [.ref a] ∧ SqT K H a (ps.map V.ref) ∧ Lights K H ps xs ∧ RetU (tri (sum3 xs)) H Q
theorem ok_summedT (F : FnP K "summed" sSummed f fd) {D : Addr} (g_DARK : mg "DARK" = some (.ref D) ∧ RelV (.ref D) (.ref D)) (hD : ∀ H, SqT K H D (tri (0, 0, 0))) : FnOk P w K mg base CX0 1 f fd ["lights"] (spSummedT K) := by
  have nd := scSummed.nd
  refine F.ok scSummed (fun vs H Q E h => ?_) (fun cdv A outer s H vs Q E hr h => ⟨_, PSs.nox (pss_cons (ps_asg (pe_glob (by rfl) g_DARK.1 g_DARK.2) (pg_tup rfl (pgs_cons (pg_name (i := 1) nd rfl (.inl rfl)) (pgs_cons (pg_name (i := 2) nd rfl (.inl rfl)) (pgs_cons (pg_name (i := 3) nd rfl (.inl rfl)) pgs_nil)))))
  (pss_cons (ps_for PassesOwn.never rfl (pi_tup (pv 0)) (pg_name (i := 4) nd rfl (.inl rfl)) (pss_cons (ps_aug (i := 1) nd rfl (.inl rfl) (pe_ix (r := rIxT K) ix_tup (pv 4) pe_int (fun _ _ => rfl)) ip_add)
  (pss_cons (ps_aug (i := 2) nd rfl (.inl rfl) (pe_ix (r := rIxT K) ix_tup (pv 4) pe_int (fun _ _ => rfl)) ip_add)
  (pss_one (ps_aug (i := 3) nd rfl (.inl rfl) (pe_ix (r := rIxT K) ix_tup (pv 4) pe_int (fun _ _ => rfl)) ip_add)))))
  (pss_one (ps_ret (pe_tup (pa_cons (pv 1) (pa_cons (pv 2) (pa_cons (pv 3) pa_nil)))))))), ?_⟩)
  · obtain ⟨a, ps, xs, rfl, _⟩ := h
    rfl
  · obtain ⟨a, ps, xs, rfl, hS, ⟨hl, hL⟩, k⟩ := h
    refine ⟨D, _, rfl, hD H, rfl, _, _, rfl, _, _, rfl, _, _, rfl, rfl, ?_⟩
    show tSeq (tFor (iTup K (tVar 0)) _ _) _ _ [some (.ref a), some (.int 0), some (.int 0), some (.int 0), none] H
    refine q_forT (a := a) (xs := ps.map V.ref) ?_ hS (fun i σ' H' => Ex H H' ∧ ∃ v : Option V, σ' = [some (.ref a), some (.int (sum3 (xs.take i)).1), some (.int (sum3 (xs.take i)).2.1), some (.int (sum3 (xs.take i)).2.2), v]) ?_ ?_ ?_ ?_
    · exact ev_var rfl
    · intro H1 e1
      exact ⟨e1, none, rfl⟩
    · rintro i σ' H' _ ⟨e, _⟩
      exact ex_t e hS
    · rintro i x σ' H' hx ⟨e, v, rfl⟩
      rw [List.getElem?_map] at hx
      obtain ⟨p, hp, rfl⟩ := Option.map_eq_some_iff.mp hx
      obtain ⟨y, hy⟩ : ∃ y, xs[i]? = some y := by
        have : i < xs.length := by
          rw [← hl]
          exact (List.getElem?_eq_some_iff.mp hp).1
        exact ⟨_, List.getElem?_eq_getElem this⟩
      have hy1 := ex_t e (hL i p y hp hy)
      refine q_aug (f := fun i j => i + j) rfl (ev_ixt rfl hy1 rfl) fun H2 e2 => ?_
      refine q_aug (f := fun i j => i + j) rfl (ev_ixt rfl (ex_t e2 hy1) rfl) fun H3 e3 => ?_
      refine s_aug (f := fun i j => i + j) rfl (ev_ixt rfl (ex_t (e2.trans e3) hy1) rfl) fun H4 e4 => ⟨((e.trans e2).trans e3).trans e4, some (.ref p), ?_⟩
      have t1 := sum_take (f := fun z => z.1) hy
      have t2 := sum_take (f := fun z => z.2.1) hy
      have t3 := sum_take (f := fun z => z.2.2) hy
      show _ = [_, some (V.int ((xs.take (i + 1)).map (fun z => z.1)).sum), some (V.int ((xs.take (i + 1)).map (fun z => z.2.1)).sum), some (V.int ((xs.take (i + 1)).map (fun z => z.2.2)).sum), _]
      rw [t1, t2, t3]
      rfl
    · rintro σ' H' ⟨e, v, rfl⟩
      rw [List.length_map, hl, List.take_length]
      exact s_retU (eu_tup (ea_cons (ev_var rfl) (ea_cons (ev_var rfl) (ea_cons (ev_var rfl) ea_nil))) (by simp)) fun p H2 hp e2 h2 => k p H2 (fresh_back e hp) (e.trans e2) h2
end
end Hs
namespace Hs
open PySem PySem.Spec PyProof.Rows L2 Evl
def spBrought0 (K : PySem.W.Frag) : Sp := fun vs H Q _ => ∃ (a c p : Addr) (x y r g u : Int), vs = [.ref a, .ref c, .ref p] ∧ SqL K H a [] ∧ SqT K H c (iv [x, y, r, g, u]) ∧ RetU (tri (r, g, u)) H Q
section
variable {P : Program} {w : World} {K : PySem.W.Frag} {mg : Str → Option Value} {base : Heap} {f C : Addr} {fd : FuncData}
abbrev sBrought : Stmt := top 44
theorem scBrought : FnScope ["figures", "choice", "point"] ["figures", "choice", "point"] (defScope sBrought) := ⟨rfl, rfl, rfl, by decide +kernel, rfl, by decide +kernel, by decide +kernel⟩
theorem good_rgb : good "rgb" = true := by decide +kernel
theorem sift_rgb (x : Tri) : siftT x "rgb" = x := by
  have h1 : has 114 "rgb" = true := by decide +kernel
  have h2 : has 103 "rgb" = true := by decide +kernel
  have h3 : has 98 "rgb" = true := by decide +kernel
  unfold siftT pick
  rw [if_pos h1, if_pos h2, if_pos h3]
theorem ok_brought0 (F : FnP K "brought" sBrought f fd) (O_sifted : OwnX P w K mg base 4 "sifted" ["light", "sift"] [] (spSifted K C)) (O_let_by_all : Own P w K mg base 1 "let_by_all" ["figures", "way"] (spLetAll0 K)) : FnOk P w K mg base CX0 5 f fd ["figures", "choice", "point"] (spBrought0 K) := by
  have nd := scBrought.nd
  refine F.ok scBrought (fun vs H Q E h => ?_) (fun cdv A outer s H vs Q E hr h => ⟨_, PSs.nox (pss_one (ps_ret (Hs.pe_ownX O_sifted hr (by first | decide | omega) (by rfl) (pa_cons (pe_slice sl_tupA (pv 1) (po_some pe_int) po_none) (pa_cons (Hs.pe_own O_let_by_all hr (by first | decide | omega) (by rfl) (pa_cons (pv 0) (pa_cons (pe_tup (pa_cons (pe_slice sl_tupA (pv 1) po_none (po_some pe_int)) (pa_cons (pv 2) pa_nil))) pa_nil))) pa_nil))))), ?_⟩)
  · obtain ⟨a, c, p, x, y, r, g, u, rfl, _⟩ := h
    rfl
  · obtain ⟨a, c, p, x, y, r, g, u, rfl, ha, hc, k⟩ := h
    refine ⟨_, rfl, 2, rfl, c, _, rfl, hc, fun hw => absurd hw.1 (show ¬ (2 : Nat) = 0 by decide), fun _ t1 ht1 => ?_⟩
    have x1 := Ex.new (o := .tup (cutV (iv [x, y, r, g, u]) (some 2) none)) ht1
    have c1 : upd H t1 (.tup (cutV (iv [x, y, r, g, u]) (some 2) none)) t1 = some (.tup (tri (r, g, u))) := upd_same
    refine ⟨_, rfl, _, rfl, 2, rfl, c, _, rfl, ex_t x1 hc, fun hw => absurd hw.2 (show ¬ (2 : Nat) = 5 by decide), fun _ t2 ht2 => ⟨_, rfl, sz_of (by simp), fun t3 ht3 => ?_⟩⟩
    have x2 := (Ex.new (o := .tup (cutV (iv [x, y, r, g, u]) none (some 2))) ht2).trans (Ex.new (o := .tup [V.ref t2, .ref p]) ht3)
    refine ⟨a, .ref t3, rfl, ex_l (x1.trans x2) ha, fun H1 e1 => ?_⟩
    have e01 := (x1.trans x2).trans e1
    refine ⟨t1, (r, g, u), "rgb", rfl, st_of ((x2.trans e1) _ _ c1), fun h => absurd h (by rw [good_rgb]; decide), fun _ q H2 hq e2 h2 => k q H2 (fresh_back e01 hq) (e01.trans e2) ?_⟩
    rw [sift_rgb] at h2
    exact h2
end
end Hs
namespace Hs
open PySem PySem.Spec PyProof.Rows L2 Evl
theorem pi_tupK {X : Cx} {K : PySem.W.Frag} {tg l : Expr} {tl : TE} (hl : PE X l tl) (hK : X.K = K := by rfl) : PI X tg l (iTup K tl) := by
  subst hK
  exact pi_tup hl
/-- a dict comprehension over what is walked -/
theorem dc_it {J : It} {n : Nat} {G : Hp → Prop} {Y : Nat → Hp → V → Hp → Prop} (w : Walk J n G Y) {g : TG} {tt : TT} {tk tv : TE} {vs : List Nat} {σ : L2.St} {H1 : Hp} {D : Addr} {Qd : Hp → Prop} (Pv : Nat → Hp → Prop) (h0 : Pv 0 (upd H1 D (.dK []))) (hG : ∀ i H, i ≤ n → Pv i H → G H) (hs : ∀ i x H H', i < n → Pv i H → Y i H x H' → g x (wipe σ vs) H' fun σ2 H2 => wipe σ2 vs = wipe σ vs ∧ tt σ2 H2 fun b H3 => if b = true then tk σ2 H3 fun y H4 => tv σ2 H4 fun z H5 => ∃ kvs k, y = kV k ∧ H5 D = some (.dK kvs) ∧ kvs.length < sizeLine ∧ Pv (i + 1) (upd H5 D (.dK (putK kvs k z))) else Pv (i + 1) H3) (hd : ∀ H, Pv n H → Qd H) :
    ∃ W : Nat → Nat → Hp → Prop, (∃ m, W 0 m (upd H1 D (.dK []))) ∧ ∀ i m H, W i m H → (J.stop i H ∧ Qd H) ∨ (J.go i H ∧ ∃ Nx : Hp → Prop, (∀ H', Nx H' → ∃ m', m' < m ∧ W (i + 1) m' H') ∧ ∀ x H', J.yld i H x H' → g x (wipe σ vs) H' fun σ2 H2 => wipe σ2 vs = wipe σ vs ∧ tt σ2 H2 fun b H3 => if b = true then tk σ2 H3 fun y H4 => tv σ2 H4 fun z H5 => ∃ kvs k, y = kV k ∧ H5 D = some (.dK kvs) ∧ kvs.length < sizeLine ∧ Nx (upd H5 D (.dK (putK kvs k z))) else Nx H3) := by
  refine ⟨fun i m H => m = n - i ∧ i ≤ n ∧ Pv i H, ⟨n, (Nat.sub_zero n).symm, Nat.zero_le _, h0⟩, ?_⟩
  rintro i m H ⟨rfl, hi, p⟩
  have gg := hG i H hi p
  rcases Nat.lt_or_ge i n with hlt | hge
  · exact .inr ⟨w.goes i H hlt gg, Pv (i + 1), fun H' p' => ⟨n - (i + 1), by omega, rfl, hlt, p'⟩, fun x H' y => hs i x H H' hlt p (w.yields i H x H' hlt gg y)⟩
  · have e : i = n := Nat.le_antisymm hi hge
    subst e
    exact .inl ⟨w.stops H gg, hd H p⟩
theorem sqt_upd {K : PySem.W.Frag} {H : Hp} {a r : Addr} {xs : List V} {o u : HO} (h : SqT K H a xs) (hr : H r = some u) (n1 : ∀ ys, HO.tup ys ≠ u) (n2 : ∀ od v, HO.frz od v ≠ u) : SqT K (upd H r o) a xs := by
  rcases h with (h | ⟨od, h⟩) | h
  · exact .inl (.inl (by rw [upd_ne (ne_of h hr (n1 _))]; exact h))
  · exact .inl (.inr ⟨od, by rw [upd_ne (ne_of h hr (n2 _ _))]; exact h⟩)
  · exact .inr h
theorem Lights.ext {K : PySem.W.Frag} {H H' : Hp} {ps : List Addr} {xs : List Tri} (h : Lights K H ps xs) (e : Ex H H') : Lights K H' ps xs := ⟨h.1, fun i p x hp hx => ex_t e (h.2 i p x hp hx)⟩
theorem Lights.upd {K : PySem.W.Frag} {H : Hp} {ps : List Addr} {xs : List Tri} {r : Addr} {o u : HO} (h : Lights K H ps xs) (hr : H r = some u) (n1 : ∀ ys, HO.tup ys ≠ u) (n2 : ∀ od v, HO.frz od v ≠ u) : Lights K (L2.upd H r o) ps xs := ⟨h.1, fun i p x hp hx => sqt_upd (h.2 i p x hp hx) hr n1 n2⟩
theorem Lights.snoc {K : PySem.W.Frag} {H : Hp} {ps : List Addr} {xs : List Tri} {q : Addr} {y : Tri} (h : Lights K H ps xs) (hq : SqT K H q (tri y)) : Lights K H (ps ++ [q]) (xs ++ [y]) := by
  refine ⟨by rw [List.length_append, List.length_append, h.1] <;> rfl, fun j p r' hp hr => ?_⟩
  by_cases hj : j < ps.length
  · rw [List.getElem?_append_left hj] at hp
    rw [List.getElem?_append_left (by rw [← h.1]; exact hj)] at hr
    exact h.2 j p r' hp hr
  · rw [List.getElem?_append_right (by omega)] at hp
    rw [List.getElem?_append_right (by rw [← h.1]; omega), ← h.1] at hr
    have e0 : j - ps.length = 0 := by
      have : j - ps.length < 1 := (List.getElem?_eq_some_iff.mp hp).1
      omega
    rw [e0] at hp hr
    cases hp
    cases hr
    exact hq
/-! ### lamps with their choices -/
abbrev Chc := Int × Int × Tri
def chv (c : Chc) : List V := iv [c.1, c.2.1, c.2.2.1, c.2.2.2.1, c.2.2.2.2]
structure LampG (H : Hp) (th : Addr) (cs : List Chc) (on : Bool) : Prop where
  ex : ∃ (ch : Addr) (ps : List Addr), H th = some (.tup [.ref ch, .bl on]) ∧ H ch = some (.tup (ps.map V.ref)) ∧ ps.length = cs.length ∧ ∀ (i : Nat) (p : Addr) (c : Chc), ps[i]? = some p → cs[i]? = some c → H p = some (.tup (chv c))
theorem LampG.keep {H H' : Hp} {th : Addr} {on : Bool} {cs : List Chc} (h : LampG H th cs on) (e : ∀ p xs, H p = some (.tup xs) → H' p = some (.tup xs)) : LampG H' th cs on := by
  obtain ⟨ch, ps, h1, h2, h3, h4⟩ := h.ex
  exact ⟨ch, ps, e _ _ h1, e _ _ h2, h3, fun i p c hp hc => e _ _ (h4 i p c hp hc)⟩
def LampsG (H : Hp) (ts : List (Key × V)) (ls : List (List Chc × Bool)) : Prop := ts.length = ls.length ∧ ∀ (i : Nat) (k : Key) (v : V) (z : List Chc × Bool), ts[i]? = some (k, v) → ls[i]? = some z → ∃ th, v = .ref th ∧ LampG H th z.1 z.2
theorem LampsG.keep {H H' : Hp} {ts : List (Key × V)} {ls : List (List Chc × Bool)} (h : LampsG H ts ls) (e : ∀ p xs, H p = some (.tup xs) → H' p = some (.tup xs)) : LampsG H' ts ls := ⟨h.1, fun i k v z h1 h2 => let ⟨th, e1, l⟩ := h.2 i k v z h1 h2; ⟨th, e1, l.keep e⟩⟩
theorem LampsG.ext {H H' : Hp} {ts : List (Key × V)} {ls : List (List Chc × Bool)} (h : LampsG H ts ls) (e : Ex H H') : LampsG H' ts ls := h.keep fun _ _ z => e _ _ z
def nOn (ls : List (List Chc × Bool)) : List (Nat × Bool) := ls.map fun z => (z.1.length, z.2)
theorem LampsG.a {H : Hp} {ts : List (Key × V)} {ls : List (List Chc × Bool)} (h : LampsG H ts ls) : LampsA H ts (nOn ls) := by
  refine ⟨by rw [h.1, nOn, List.length_map], fun i k v n on h1 h2 => ?_⟩
  unfold nOn at h2
  rw [List.getElem?_map] at h2
  obtain ⟨z, hz, e⟩ := Option.map_eq_some_iff.mp h2
  cases e
  obtain ⟨th, rfl, l⟩ := h.2 i k v z h1 hz
  obtain ⟨ch, ps, q1, q2, q3, _⟩ := l.ex
  exact ⟨th, ch, _, rfl, q1, q2, by rw [List.length_map, q3]⟩
/-- what a lamp's choices bring -/
def rowT (L : Chc → Tri) (z : List Chc × Bool) : List Tri := z.1.map fun c => if z.2 = true then L c else (0, 0, 0)
def RowA (K : PySem.W.Frag) (H : Hp) (r : Addr) (xs : List Tri) : Prop := ∃ ps : List Addr, H r = some (.lst (ps.map V.ref)) ∧ Lights K H ps xs
theorem RowA.ext {K : PySem.W.Frag} {H H' : Hp} {r : Addr} {xs : List Tri} (h : RowA K H r xs) (e : Ex H H') : RowA K H' r xs := let ⟨ps, h1, h2⟩ := h; ⟨ps, e _ _ h1, h2.ext e⟩
theorem RowA.upd {K : PySem.W.Frag} {H : Hp} {r D : Addr} {xs : List Tri} {o : HO} {kvs : List (Key × V)} (h : RowA K H r xs) (hD : H D = some (.dK kvs)) : RowA K (L2.upd H D o) r xs := by
  obtain ⟨ps, h1, h2⟩ := h
  exact ⟨ps, by rw [upd_ne (ne_of h1 hD (by intro z; cases z))]; exact h1, h2.upd hD (by intro _ z; cases z) (by intro _ _ z; cases z)⟩
def tabV (ts : List (Key × V)) (rs : List Addr) : List (Key × V) := (List.range rs.length).map fun j => ((ts.getD j (.inl 0, .non)).1, V.ref (rs.getD j 0))
theorem tabV_next {ts : List (Key × V)} {rs : List Addr} {r : Addr} {k : Key} {v : V} (hn : (ts.map (·.1)).Nodup) (h : ts[rs.length]? = some (k, v)) : putK (tabV ts rs) k (.ref r) = tabV ts (rs ++ [r]) := by
  have hi : rs.length < ts.length := (List.getElem?_eq_some_iff.mp h).1
  rw [putK_new]
  · unfold tabV
    rw [List.length_append, List.length_singleton, List.range_succ, List.map_append, List.map_singleton]
    congr 1
    · refine List.map_congr_left fun j hj => ?_
      have hj := List.mem_range.mp hj
      rw [List.getD_eq_getElem?_getD (l := rs ++ [r]), List.getElem?_append_left hj, ← List.getD_eq_getElem?_getD]
    · rw [List.getD_eq_getElem?_getD (i := rs.length), h, List.getD_eq_getElem?_getD (l := rs ++ [r]), List.getElem?_append_right (Nat.le_refl _), Nat.sub_self] <;> rfl
  · intro p hp e
    unfold tabV at hp
    obtain ⟨j, hj, rfl⟩ := List.mem_map.mp hp
    have hj := List.mem_range.mp hj
    have e2 : (ts.map (·.1))[j]? = (ts.map (·.1))[rs.length]? := by
      rw [List.getElem?_map, List.getElem?_map, h, List.getElem?_eq_getElem (by omega)]
      have e3 : (ts.getD j (.inl 0, .non)).1 = k := e
      rw [List.getD_eq_getElem?_getD, List.getElem?_eq_getElem (by omega)] at e3
      show some (ts[j]).1 = some k
      rw [← e3] <;> rfl
    have := (List.getElem?_inj (by rw [List.length_map]; omega) hn).mp e2
    omega
/-- by the figures at a each choice brings L to the point at p -/
def BrBy (K : PySem.W.Frag) (spB : Sp) (p : Addr) (L : Chc → Tri) (a : Addr) (H1 : Hp) : Prop := ∀ (H2 : Hp), Ex H1 H2 → ∀ (c : Chc) (q : Addr), SqT K H2 q (chv c) → ∀ Q' : VK, RetU (tri (L c)) H2 Q' → spB [.ref a, .ref q, .ref p] H2 Q' E0
/-- a new table of rows -/
def RetTab (K : PySem.W.Frag) (L : Chc → Tri) (ts : List (Key × V)) (ls : List (List Chc × Bool)) (H : Hp) (Q : VK) : Prop := ∀ (D : Addr) (H' : Hp) (rs : List Addr), H D = none → Ex H H' → rs.length = ts.length → Fz H' D (tabV ts rs) → (∀ (i : Nat) (r : Addr) (z : List Chc × Bool), rs[i]? = some r → ls[i]? = some z → RowA K H' r (rowT L z)) → Q (.ref D) H'
def spChoice (K : PySem.W.Frag) (spF spB : Sp) : Sp := fun vs H Q _ => ∃ (fl p b : Addr) (kvs ts : List (Key × V)) (ls : List (List Chc × Bool)) (L : Chc → Tri), vs = [.ref fl, .ref p] ∧ Fz H fl kvs ∧ valV kvs (.inr "lamp") = some (.ref b) ∧ Fz H b ts ∧ LampsG H ts ls ∧ (ts.map (·.1)).Nodup ∧ ts.length ≤ 1000 ∧ (∀ z ∈ ls, z.1.length ≤ 1000) ∧
  (∀ Q' : VK, (∀ a H1, Ex H H1 → BrBy K spB p L a H1 → Q' (.ref a) H1) → spF [.ref fl] H Q' E0) ∧ RetTab K L ts ls H Q
section
variable {P : Program} {w : World} {K : PySem.W.Frag} {mg : Str → Option Value} {base : Heap} {f C Dk : Addr} {fd : FuncData} {spF spB : Sp}
abbrev sChoice : Stmt := top 45
theorem scChoice : FnScope ["floor", "point", "figures", "number", "choices", "on", "choice"] ["floor", "point"] (defScope sChoice) := ⟨rfl, rfl, rfl, by decide +kernel, rfl, by decide +kernel, by decide +kernel⟩
theorem ok_choice (F : FnP K "choice_lights" sChoice f fd) (O_figures_of : Own P w K mg base 1 "figures_of" ["floor"] spF) (O_brought : Own P w K mg base 5 "brought" ["figures", "choice", "point"] spB) (g_DARK : mg "DARK" = some (.ref Dk) ∧ RelV (.ref Dk) (.ref Dk)) (hDk : ∀ H, SqT K H Dk (tri (0, 0, 0))) : FnOk P w K mg base CX0 6 f fd ["floor", "point"] (spChoice K spF spB) := by
  have nd := scChoice.nd
  refine F.ok scChoice (fun vs H Q E h => ?_) (fun cdv A outer s H vs Q E hr h => ⟨_, PSs.nox (pss_cons (ps_set (i := 2) nd rfl (.inr rfl) (Hs.pe_own O_figures_of hr (by first | decide | omega) (by rfl) (pa_cons (pv 0) pa_nil)))
  (pss_one (ps_ret (Hs.pe_frz (pe_dc (own := [("number", 3), ("choices", 4), ("on", 5)]) (g := (gTup K 2 (gCons (gName 3) (gCons (gTup K 2 (gCons (gName 4) (gCons (gName 5) gNil))) gNil)))) rfl nd (pi_items (pe_dget (Hs.un1 hr) (pv 0) pe_str (fun _ _ => rfl))) (blkOk_by (N := ["floor", "point", "figures", "number", "choices", "on", "choice"]) (sc := defScope (Hs.top 45)) (by decide +kernel)) (fun _ _ _ _ _ => (pg_tup rfl (pgs_cons (pg_name (i := 3) nd rfl (Or.inl rfl)) (pgs_cons (pg_tup rfl (pgs_cons (pg_name (i := 4) nd rfl (Or.inl rfl)) (pgs_cons (pg_name (i := 5) nd rfl (Or.inr rfl)) pgs_nil))) pgs_nil)))) (fun _ _ _ _ _ => pts_nil) (fun _ _ _ _ _ => (pv 3)) (fun _ _ _ _ _ => (pe_lc (own := [("choice", 6)]) rfl nd (Hs.pi_tupK (K := K) (pv 4)) (blkOk_by (N := ["floor", "point", "figures", "number", "choices", "on", "choice"]) (by rfl)) (fun _ _ _ _ _ => (pg_name (i := 6) nd rfl (Or.inl rfl))) (fun _ _ _ _ _ => pts_nil) (fun _ _ _ _ _ => (pe_ifExp (pt_val (pv 5)) (Hs.pe_own O_brought hr (by first | decide | omega) (by rfl) (pa_cons (pv 2) (pa_cons (pv 6) (pa_cons (pv 1) pa_nil)))) (pe_glob (by rfl) g_DARK.1 g_DARK.2)))))))))), ?_⟩)
  · obtain ⟨fl, p, b, kvs, ts, ls, L, rfl, _⟩ := h
    rfl
  · obtain ⟨fl, p, b, kvs, ts, ls, L, rfl, hf, hv, hb, hL, hn, hz, hc, kF, k⟩ := h
    refine ⟨_, rfl, kF _ fun a H1 e1 hB => ?_⟩
    dsimp only [gName, List.set]
    obtain ⟨od, hb1⟩ := hb.ext e1
    refine ⟨_, rfl, fl, _, rfl, by have z := (hf.ext e1).get (k := .inr "lamp"); rw [hv] at z; exact z, b, od, ts, rfl, hb1, fun D hD => ?_⟩
    refine dc_it walk_items (fun i H' => Ex H1 H' ∧ ∃ rs : List Addr, rs.length = i ∧ (∀ (j : Nat) (r : Addr) (z : List Chc × Bool), rs[j]? = some r → ls[j]? = some z → RowA K H' r (rowT L z)) ∧ H' D = some (.dK (tabV ts rs))) ⟨Ex.new hD, [], rfl, (fun j r z hj => by cases hj), upd_same⟩ (fun i H' _ q => q.1 _ _ hb1) (fun i x H' H'' hi q y => ?_) (fun H' q => ?_)
    · obtain ⟨e, rs, hrl, hrs, hD'⟩ := q
      obtain ⟨T, x1, x2, rfl, hT, rfl, f1, f2⟩ := y
      obtain ⟨⟨key, v⟩, hkv⟩ : ∃ z, ts[i]? = some z := ⟨_, List.getElem?_eq_getElem hi⟩
      obtain ⟨⟨cs, on⟩, hln⟩ : ∃ z, ls[i]? = some z := ⟨_, List.getElem?_eq_getElem (by rw [← hL.1]; exact hi)⟩
      dsimp only at f1 f2
      rw [hkv] at f1 f2
      cases f1
      cases f2
      have eT := Ex.new (o := .tup [kV key, v]) hT
      have e1T := e.trans eT
      obtain ⟨th, rfl, lg⟩ := ((hL.ext e1).ext e1T).2 i key v _ hkv hln
      obtain ⟨ch, ps, h1, h2, h3, h4⟩ := lg.ex
      dsimp only at h1 h3 h4
      have hcl : cs.length ≤ 1000 := hc _ (List.mem_of_getElem? hln)
      refine ⟨T, _, rfl, st_of upd_same, rfl, _, _, rfl, _, _, rfl, ⟨th, _, rfl, st_of h1, rfl, _, _, rfl, _, _, rfl, rfl, rfl, rfl, ?_⟩⟩
      simp only [tYes, if_true]
      refine ⟨_, rfl, _, rfl, ch, rfl, ⟨_, st_of h2⟩, fun R hR => ?_⟩
      have xR := Ex.new (o := .lst []) hR
      refine lc_tup (xs := ps.map V.ref) (fun j H3 => Ex (upd H' T (.tup [kV key, .ref th])) H3 ∧ ∃ qs : List Addr, H3 R = some (.lst (qs.map V.ref)) ∧ Lights K H3 qs ((rowT L (cs, on)).take j)) ⟨xR, [], upd_same, rfl, (fun j p x hj => by cases hj)⟩ (fun j H3 _ w => st_of (w.1 _ _ h2)) (fun j x H3 hj w => ?_) (fun H3 w => ?_)
      · obtain ⟨e3, qs, hR3, hq3⟩ := w
        rw [List.getElem?_map] at hj
        obtain ⟨pj, hpj, rfl⟩ := Option.map_eq_some_iff.mp hj
        obtain ⟨c, hcj⟩ : ∃ c, cs[j]? = some c := ⟨_, List.getElem?_eq_getElem (by rw [← h3]; exact (List.getElem?_eq_some_iff.mp hpj).1)⟩
        have hrow : (rowT L (cs, on))[j]? = some (if on = true then L c else (0, 0, 0)) := by
          unfold rowT
          rw [List.getElem?_map, hcj] <;> rfl
        have hql : qs.length ≤ 1000 := by
          rw [hq3.1, List.length_take, rowT, List.length_map]
          dsimp only
          omega
        refine ⟨rfl, ?_⟩
        simp only [tYes, if_true]
        have add : ∀ (q : Addr) (H4 : Hp) (x : Tri), Ex H3 H4 → (rowT L (cs, on))[j]? = some x → SqT K H4 q (tri x) → ∃ acc, H4 R = some (.lst acc) ∧ acc.length < sizeLine ∧ Ex (upd H' T (.tup [kV key, .ref th])) (upd H4 R (.lst (acc ++ [.ref q]))) ∧ ∃ qs : List Addr, upd H4 R (.lst (acc ++ [.ref q])) R = some (.lst (qs.map V.ref)) ∧ Lights K (upd H4 R (.lst (acc ++ [.ref q]))) qs ((rowT L (cs, on)).take (j + 1)) := fun q H4 x e4 hx hq => by
          have hR4 := e4 _ _ hR3
          refine ⟨_, hR4, by rw [List.length_map, sizeLine_eq]; omega, Ex.mut (e3.trans e4) hR, qs ++ [q], by rw [upd_same, List.map_append] <;> rfl, ?_⟩
          rw [List.take_add_one, hx]
          exact ((hq3.ext e4).upd hR4 (by intro _ z; cases z) (by intro _ _ z; cases z)).snoc (sqt_upd hq hR4 (by intro _ z; cases z) (by intro _ _ z; cases z))
        refine (et_test (b := on) (ev_var rfl)) _ (Ex.refl _) _ fun H5 e5 => ?_
        cases on with
        | true =>
          refine ite_T rfl ⟨_, rfl, _, rfl, _, rfl, ?_⟩
          exact hB H5 ((e1T.trans e3).trans e5) c pj (st_of ((e3.trans e5) _ _ (h4 j pj c hpj hcj))) _ fun q H6 hq e6 h6 => add q H6 _ (e5.trans e6) hrow (st_of h6)
        | false => exact ite_F rfl (add Dk H5 _ e5 hrow (hDk H5))
      · obtain ⟨e3, qs, hR3, hq3⟩ := w
        have eH := eT.trans e3
        have hD3 := eH _ _ hD'
        refine ⟨_, key, rfl, hD3, ?_, Ex.mut (e.trans eH) hD, rs ++ [R], by rw [List.length_append, hrl] <;> rfl, fun j r z hj hzj => ?_, ?_⟩
        · rw [tabV, List.length_map, List.length_range, sizeLine_eq]
          omega
        · by_cases hlt : j < rs.length
          · rw [List.getElem?_append_left hlt] at hj
            exact ((hrs j r z hj hzj).ext eH).upd hD3
          · rw [List.getElem?_append_right (by omega)] at hj
            have e0 : j - rs.length = 0 := by
              have : j - rs.length < 1 := (List.getElem?_eq_some_iff.mp hj).1
              omega
            rw [e0] at hj
            cases hj
            have ej : j = i := by omega
            subst ej
            cases hln.symm.trans hzj
            refine RowA.upd ⟨qs, hR3, ?_⟩ hD3
            have el : (rowT L (cs, on)).take (ps.map V.ref).length = rowT L (cs, on) := List.take_of_length_le (by rw [List.length_map, h3, rowT, List.length_map] <;> exact Nat.le_refl _)
            rw [el] at hq3
            exact hq3
        · rw [upd_same, tabV_next hn (by rw [hrl]; exact hkv)]
    · obtain ⟨e, rs, hrl, hrs, hD'⟩ := q
      refine ⟨D, _, rfl, hD', True.intro, fun od2 => k D _ rs (fresh_back e1 hD) (e1.trans (Ex.mut e hD)) hrl ⟨od2, upd_same⟩ fun j r z hj hzj => (hrs j r z hj hzj).upd hD'⟩
/-! ### the sum of what is picked -/
def spPicked (K : PySem.W.Frag) : Sp := fun vs H Q _ => ∃ (t pk : Addr) (tab kp : List (Key × V)) (ys : List Tri), vs = [.ref t, .ref pk] ∧ Fz H t tab ∧ H pk = some (.dK kp) ∧ tab.length = ys.length ∧ tab.length ≤ 1000 ∧
  (∀ (i : Nat) (k : Key) (v : V) (y : Tri), tab[i]? = some (k, v) → ys[i]? = some y → ∃ (r : Addr) (xs : List Tri) (j : Nat), v = .ref r ∧ RowA K H r xs ∧ valV kp k = some (.int (j : Int)) ∧ xs[j]? = some y) ∧ RetU (tri (sum3 ys)) H Q
abbrev sPicked : Stmt := top 46
theorem scPicked : FnScope ["table", "picks", "number", "rows"] ["table", "picks"] (defScope sPicked) := ⟨rfl, rfl, rfl, by decide +kernel, rfl, by decide +kernel, by decide +kernel⟩
theorem ok_picked (F : FnP K "picked_light" sPicked f fd) (O_summed : Own P w K mg base 1 "summed" ["lights"] (spSummedL K)) : FnOk P w K mg base CX0 2 f fd ["table", "picks"] (spPicked K) := by
  have nd := scPicked.nd
  refine F.ok scPicked (fun vs H Q E h => ?_) (fun cdv A outer s H vs Q E hr h => ⟨_, PSs.nox (pss_one (ps_ret (Hs.pe_own O_summed hr (by first | decide | omega) (by rfl) (pa_cons (pe_lc (own := [("number", 2), ("rows", 3)]) (g := gTup K 2 (gCons (gName 2) (gCons (gName 3) gNil))) rfl nd (pi_items (pv 0)) (blkOk_by (N := ["table", "picks", "number", "rows"]) (sc := defScope (Hs.top 46)) (by decide +kernel)) (fun _ _ _ _ _ => (pg_tup rfl (pgs_cons (pg_name (i := 2) nd rfl (Or.inl rfl)) (pgs_cons (pg_name (i := 3) nd rfl (Or.inl rfl)) pgs_nil)))) (fun _ _ _ _ _ => pts_nil) (fun _ _ _ _ _ => (pe_ix (r := rIxL K) ix_list (pv 3) (pe_dget (Hs.un1 hr) (pv 1) (pv 2) (fun _ _ => rfl)) (fun _ _ => rfl)))) pa_nil)))), ?_⟩)
  · obtain ⟨t, pk, tab, kp, ys, rfl, _⟩ := h
    rfl
  · obtain ⟨t, pk, tab, kp, ys, rfl, ⟨od, ht⟩, hp, hl, hz, hr1, k⟩ := h
    refine ⟨_, rfl, t, od, tab, rfl, ht, fun D hD => ?_⟩
    refine lc_it walk_items (fun i H' => Ex H H' ∧ ∃ qs : List Addr, H' D = some (.lst (qs.map V.ref)) ∧ Lights K H' qs (ys.take i)) ⟨Ex.new hD, [], upd_same, rfl, (fun j p x hj => by cases hj)⟩ (fun i H' _ q => q.1 _ _ ht) (fun i x H' H'' hi q y => ?_) (fun H' q => ?_)
    · obtain ⟨e, qs, hD', hqs⟩ := q
      obtain ⟨T, x1, x2, rfl, hT, rfl, f1, f2⟩ := y
      obtain ⟨⟨key, v⟩, hkv⟩ : ∃ z, tab[i]? = some z := ⟨_, List.getElem?_eq_getElem hi⟩
      obtain ⟨y, hy⟩ : ∃ z, ys[i]? = some z := ⟨_, List.getElem?_eq_getElem (by rw [← hl]; exact hi)⟩
      dsimp only at f1 f2
      rw [hkv] at f1 f2
      cases f1
      cases f2
      have eT := Ex.new (o := .tup [kV key, v]) hT
      have eH := e.trans eT
      obtain ⟨r, xs, j, rfl, hR, hvk, hxj⟩ := hr1 i key v y hkv hy
      obtain ⟨ps, hr2, hps⟩ := hR.ext eH
      obtain ⟨pj, hpj⟩ : ∃ z, ps[j]? = some z := ⟨_, List.getElem?_eq_getElem (by rw [hps.1]; exact (List.getElem?_eq_some_iff.mp hxj).1)⟩
      have hat : atI (ps.map V.ref) (j : Int) = some (.ref pj) := atI_nat (by rw [List.getElem?_map, hpj] <;> rfl)
      have hg : DGet (upd H' T (.tup [kV key, .ref r])) pk (kV key) (some (.int (j : Int))) := .inl ⟨kp, key, .inl (eH _ _ hp), rfl, hvk.symm⟩
      have hDT := eT _ _ hD'
      refine ⟨T, _, rfl, st_of upd_same, rfl, _, _, rfl, _, _, rfl, rfl, rfl, ?_⟩
      simp only [tYes, if_true]
      refine ⟨_, rfl, _, rfl, _, rfl, pk, _, rfl, hg, r, _, (j : Int), _, rfl, rfl, sq_of hr2, hat, _, hDT, ?_, Ex.mut eH hD, qs ++ [pj], by rw [upd_same, List.map_append] <;> rfl, ?_⟩
      · rw [List.length_map, hqs.1, List.length_take, sizeLine_eq]
        omega
      · rw [List.take_add_one, hy]
        exact ((hqs.ext eT).upd hDT (by intro _ z; cases z) (by intro _ _ z; cases z)).snoc (sqt_upd (hps.2 j pj y hpj hxj) hDT (by intro _ z; cases z) (by intro _ _ z; cases z))
    · obtain ⟨e, qs, hD', hqs⟩ := q
      rw [hl, List.take_length] at hqs
      exact ⟨D, qs, ys, rfl, sq_of hD', hqs, fun q H2 hq e2 h2 => k q H2 (fresh_back e hq) (e.trans e2) h2⟩
end
end Hs
namespace Hs
open PySem PySem.Spec PyProof.Rows L2 Evl
/-! ### the light at a place -/
/-- the light of each lamp, under the row r -/
def litBy (L : Chc → Tri) (ls : List (List Chc × Bool)) (r : List Int) : List Tri := (List.range ls.length).map fun i => (rowT L (ls.getD i ([], false))).getD (pval (nOn ls) r i).toNat (0, 0, 0)
theorem nOn_take {ls : List (List Chc × Bool)} (i : Nat) : (nOn ls).take i = nOn (ls.take i) := (List.map_take ..).symm
theorem nOn_at {ls : List (List Chc × Bool)} {i : Nat} {z : List Chc × Bool} (h : ls[i]? = some z) : (nOn ls)[i]? = some (z.1.length, z.2) := by
  unfold nOn
  rw [List.getElem?_map, h] <;> rfl
theorem pval_ok {ls : List (List Chc × Bool)} {r : List Int} {i : Nat} {z : List Chc × Bool} (g : GoodR (cnts (nOn ls)) r) (h1 : ∀ z ∈ ls, 1 ≤ z.1.length) (h : ls[i]? = some z) : 0 ≤ pval (nOn ls) r i ∧ (pval (nOn ls) r i).toNat < z.1.length := by
  have hn := nOn_at h
  have hd : (nOn ls).getD i (0, false) = (z.1.length, z.2) := by rw [List.getD_eq_getElem?_getD, hn] <;> rfl
  have hz := h1 z (List.mem_of_getElem? h)
  unfold pval
  rw [hd]
  by_cases hc : 1 < z.1.length
  · rw [if_pos hc]
    have e1 : cnts (nOn ls) = cnts ((nOn ls).take (i + 1)) ++ cnts ((nOn ls).drop (i + 1)) := by rw [← cnts_app, List.take_append_drop]
    rw [cnts_next hn, if_pos hc] at e1
    have hat : (cnts (nOn ls))[(cnts ((nOn ls).take i)).length]? = some (z.1.length : Int) := by
      rw [e1, List.append_assoc, List.getElem?_append_right (Nat.le_refl _), Nat.sub_self] <;> rfl
    have hlt := (List.getElem?_eq_some_iff.mp hat).1
    have hr : r[(cnts ((nOn ls).take i)).length]? = some (r[(cnts ((nOn ls).take i)).length]'(by rw [g.1]; exact hlt)) := List.getElem?_eq_getElem (by rw [g.1]; exact hlt)
    have hb := g.2 _ _ _ hlt hat hr
    rw [List.getD_eq_getElem?_getD, hr]
    dsimp only [Option.getD_some]
    omega
  · rw [if_neg hc]
    exact ⟨Int.le_refl _, hz⟩
theorem good_nil : GoodR [] [] := ⟨rfl, fun i c d hi => absurd hi (Nat.not_lt_zero _)⟩
/-- what stands and gives light at the house h: state s, its floor fl, its lamps at b -/
structure LitA (K : PySem.W.Frag) (C : Addr) (H : Hp) (h dx s fl lk cm b : Addr) (fs : List (Str × V)) (kvs lo cs ts : List (Key × V)) (ls : List (List Chc × Bool)) : Prop where
  h : H h = some (.ins C dx fs)
  f : fs.lookup ("state" : Str) = some (.ref s)
  s : StA K H s fl lk cm kvs lo cs
  v : valV kvs (.inr "lamp") = some (.ref b)
  b : Fz H b ts
  l : LampsG H ts ls
  n : (ts.map (·.1)).Nodup
  z : ts.length ≤ 1000
  c : ∀ z ∈ ls, z.1.length ≤ 1000
  o : ∀ z ∈ ls, 1 ≤ z.1.length
  t : Cnt (cnts (nOn ls))
theorem LitA.ext {K : PySem.W.Frag} {C : Addr} {H H' : Hp} {h dx s fl lk cm b : Addr} {fs : List (Str × V)} {kvs lo cs ts : List (Key × V)} {ls : List (List Chc × Bool)} (a : LitA K C H h dx s fl lk cm b fs kvs lo cs ts ls) (e : Ex H H') : LitA K C H' h dx s fl lk cm b fs kvs lo cs ts ls := ⟨e _ _ a.h, a.f, a.s.ext e, a.v, a.b.ext e, a.l.ext e, a.n, a.z, a.c, a.o, a.t⟩
/-- the figures of the floor fl let L through to the place (x, y) -/
def Figs (K : PySem.W.Frag) (spF spB : Sp) (fl : Addr) (x y : Int) (L : Chc → Tri) (H : Hp) : Prop := ∀ (H0 : Hp) (p : Addr), Ex H H0 → H0 p = some (.tup [.int x, .int y]) → ∀ Q' : VK, (∀ a H1, Ex H0 H1 → BrBy K spB p L a H1 → Q' (.ref a) H1) → spF [.ref fl] H0 Q' E0
theorem Figs.ext {K : PySem.W.Frag} {spF spB : Sp} {fl : Addr} {x y : Int} {L : Chc → Tri} {H H' : Hp} (h : Figs K spF spB fl x y L H) (e : Ex H H') : Figs K spF spB fl x y L H' := fun H0 p e0 hp Q' k => h H0 p (e.trans e0) hp Q' k
def spLightM (K : PySem.W.Frag) (C cP cU cB : Addr) (spF spB : Sp) : Sp := fun vs H Q E => ∃ (h dx s fl lk cm b : Addr) (fs : List (Str × V)) (kvs lo cs ts : List (Key × V)) (ls : List (List Chc × Bool)) (x y : Int) (v : V) (L : Chc → Tri), vs = [.ref h, .int x, .int y, v] ∧ LitA K C H h dx s fl lk cm b fs kvs lo cs ts ls ∧ (¬ InFar [x, y] → Flies cP "badplace" H E) ∧
  (InFar [x, y] → Figs K spF spB fl x y L H ∧ ((v = .non ∧ (cnts (nOn ls) ≠ [] → Flies cU "unknown" H E) ∧ (cnts (nOn ls) = [] → RetU (tri (sum3 (litBy L ls []))) H Q)) ∨
    ∃ (sb : Addr) (r : List Int), v = .ref sb ∧ SqT K H sb (iv r) ∧ (¬ GoodR (cnts (nOn ls)) r → Flies cB "badsetting" H E) ∧ (GoodR (cnts (nOn ls)) r → RetU (tri (sum3 (litBy L ls r))) H Q)))
theorem val_at : ∀ {kvs : List (Key × V)} {i : Nat} {k : Key} {v : V}, (kvs.map (·.1)).Nodup → kvs[i]? = some (k, v) → valV kvs k = some v
  | [], _, _, _, _, h => by cases h
  | p :: r, 0, _, _, _, h => by
    cases h
    exact valV_pos rfl
  | p :: r, i + 1, k, v, hn, h => by
    rw [List.map_cons, List.nodup_cons] at hn
    have hr : r[i]? = some (k, v) := h
    have hm : k ∈ r.map (·.1) := List.mem_map.mpr ⟨_, List.mem_of_getElem? hr, rfl⟩
    rw [valV_neg (fun e => hn.1 (e ▸ hm))]
    exact val_at hn.2 hr
theorem valV_pk {ts : List (Key × V)} {ls : List (Nat × Bool)} {r : List Int} (hn : (ts.map (·.1)).Nodup) : ∀ (m : Nat), m ≤ ts.length → ∀ (i : Nat), i < m → ∀ (k : Key) (v : V), ts[i]? = some (k, v) → valV (pkV ts ls r m) k = some (.int (pval ls r i)) := by
  intro m hm i hi k v hk
  have hat : (pkV ts ls r m)[i]? = some (k, .int (pval ls r i)) := by
    unfold pkV
    rw [List.getElem?_map, List.getElem?_range hi]
    show some ((ts.getD i (.inl 0, .non)).1, V.int (pval ls r i)) = _
    rw [List.getD_eq_getElem?_getD, hk] <;> rfl
  have hkeys : (pkV ts ls r m).map (·.1) = (ts.map (·.1)).take m := by
    unfold pkV
    rw [List.map_map]
    refine List.ext_getElem (by simp; omega) fun j h1 h2 => ?_
    simp at h1
    simp [List.getD_eq_getElem?_getD, List.getElem?_eq_getElem (show j < ts.length by omega)]
  have hnd : ((pkV ts ls r m).map (·.1)).Nodup := by
    rw [hkeys]
    exact hn.sublist (List.take_sublist _ _)
  exact val_at hnd hat
section
variable {P : Program} {w : World} {K : PySem.W.Frag} {mg : Str → Option Value} {base : Heap} {f C cP cU cB : Addr} {fd : FuncData} {spF spB : Sp} {kws : List (Str × V)}
abbrev sLightM : Stmt := (inClass (Hs.top 103) 28)
theorem scLightM : FnScope ["self", "across", "up", "setting", "floor", "checked"] ["self", "across", "up", "setting"] (defScope sLightM) := ⟨rfl, rfl, rfl, by decide +kernel, rfl, by decide +kernel, by decide +kernel⟩
theorem ok_lightM (F : FunD K "light" "House.light" (defArgs sLightM) (defBody sLightM) (defScope sLightM) [] kws f fd) (hC : HouseC K C) (O_check_place : OwnX P w K mg base 3 "check_place" ["place"] [] (spPlace K cP)) (O_checked_setting : OwnX P w K mg base 4 "checked_setting" ["lamps", "setting"] [] (spChecked K cU cB)) (O_choice_lights : Own P w K mg base 6 "choice_lights" ["floor", "point"] (spChoice K spF spB)) (O_picked_light : Own P w K mg base 2 "picked_light" ["table", "picks"] (spPicked K)) (O_picks_of : Own P w K mg base 1 "picks_of" ["lamps", "setting"] (spPicks K)) :
    FnOk P w K mg base (L2.CX P w) 7 f fd ["self", "across", "up", "setting"] (spLightM K C cP cU cB spF spB) := by
  have nd := scLightM.nd
  refine F.ok scLightM (fun vs H Q E h => ?_) (fun cdv A outer s H vs Q E hr h => ⟨_, (pss_cons (ps_expr (Hs.pe_ownT O_check_place hr (by decide) (by rfl) (passes_call (takes_of rfl rfl rfl rfl) (fun _ _ _ _ h => h)) (pa_cons (pe_tup (pa_cons (pv 1) (pa_cons (pv 2) pa_nil))) pa_nil)))
  (pss_cons (ps_set (i := 4) nd rfl (.inl rfl) (pe_ix (r := rIxT K) ix_tup (pe_fld (pv 0) (by rfl)) pe_int (fun _ _ => rfl)))
  (Evl.pss_cut (ps_set (i := 5) nd rfl (.inl rfl) (Hs.pe_ownT O_checked_setting hr (by decide) (by rfl) (passes_call (takes_of rfl rfl rfl rfl) (fun _ _ _ _ h => h)) (pa_cons (pe_dget (Hs.un1 hr) (pv 4) pe_str (fun _ _ => rfl)) (pa_cons (pv 3) pa_nil))))
  (pss_one (ps_ret (Hs.pe_own O_picked_light hr (by first | decide | omega) (by rfl) (pa_cons (Hs.pe_own O_choice_lights hr (by first | decide | omega) (by rfl) (pa_cons (pv 4) (pa_cons (pe_tup (pa_cons (pv 1) (pa_cons (pv 2) pa_nil))) pa_nil))) (pa_cons (Hs.pe_own O_picks_of hr (by first | decide | omega) (by rfl) (pa_cons (pe_dget (Hs.un1 hr) (pv 4) pe_str (fun _ _ => rfl)) (pa_cons (pv 5) pa_nil))) pa_nil)))))))), ?_⟩)
  · obtain ⟨h, dx, s, fl, lk, cm, b, fs, kvs, lo, cs, ts, ls, x, y, v, L, rfl, _⟩ := h
    rfl
  · obtain ⟨h, dx, s, fl, lk, cm, b, fs, kvs, lo, cs, ts, ls, x, y, v, L, rfl, A0, kP, k⟩ := h
    refine ⟨_, rfl, _, rfl, sz_of (by simp), fun t1 ht1 => ⟨t1, [x, y], rfl, st_of upd_same, by simp, by simp, fun h => (kP h).ext (Ex.new ht1), fun hF H1 e1 => ?_⟩⟩
    have e01 := (Ex.new (o := .tup [V.int x, .int y]) ht1).trans e1
    have A1 := A0.ext e01
    obtain ⟨kB, k⟩ := k hF
    refine ⟨_, rfl, h, C, dx, fs, _, rfl, A1.h, hC.c, hC.s, A1.f, s, _, 0, _, rfl, rfl, A1.s.t, rfl, ?_⟩
    dsimp only [gName, List.set]
    have gL : ∀ {H' : Hp}, Ex H1 H' → DGet H' fl (.str "lamp") (some (.ref b)) := fun e => by
      have z := (A1.ext e).s.f.get (k := .inr "lamp")
      rw [A1.v] at z
      exact z
    have hcn : ∀ z ∈ nOn ls, z.1 ≤ 1000 := fun z hz => by
      obtain ⟨y, hy, rfl⟩ := List.mem_map.mp hz
      exact A0.c y hy
    refine q_cut (M := fun σ' H' => ∃ (sb : Addr) (r : List Int), σ' = [some (.ref h), some (.int x), some (.int y), some v, some (.ref fl), some (.ref sb)] ∧ Ex H1 H' ∧ SqT K H' sb (iv r) ∧ GoodR (cnts (nOn ls)) r ∧ RetU (tri (sum3 (litBy L ls r))) H' Q) ?_ ?_
    · refine ⟨_, rfl, fl, _, rfl, gL (Ex.refl H1), _, rfl, b, v, ts, nOn ls, rfl, A1.b, A1.l.a, A1.z, hcn, A1.t, ?_⟩
      rcases k with ⟨rfl, kU, k⟩ | ⟨sb, r, rfl, hsb, kE, k⟩
      · refine .inl ⟨rfl, fun h => (kU h).ext e01, fun h p H2 hp e2 h2 => ?_⟩
        exact ⟨p, [], rfl, e2, st_of h2, by rw [h]; exact good_nil, fun q H3 hq e3 h3 => k h q H3 (fresh_back (e01.trans e2) hq) ((e01.trans e2).trans e3) h3⟩
      · refine .inr ⟨sb, r, rfl, ex_t e01 hsb, fun h => (kE h).ext e01, fun h H2 e2 => ?_⟩
        exact ⟨sb, r, rfl, e2, ex_t (e01.trans e2) hsb, h, fun q H3 hq e3 h3 => k h q H3 (fresh_back (e01.trans e2) hq) ((e01.trans e2).trans e3) h3⟩
    · rintro σ' H2 ⟨sb, r, rfl, e2, hsb, hg, kk⟩
      have A2 := A1.ext e2
      refine ⟨_, rfl, _, rfl, _, rfl, sz_of (by simp), fun t2 ht2 => ?_⟩
      have x2 := Ex.new (o := .tup [V.int x, .int y]) ht2
      have A3 := A2.ext x2
      refine ⟨fl, t2, b, kvs, ts, ls, L, rfl, A3.s.f, A3.v, A3.b, A3.l, A3.n, A3.z, A3.c, fun Q' q' => kB _ t2 ((e01.trans e2).trans x2) upd_same Q' q', fun D H3 rs hD e3 hrl hFz hrows => ?_⟩
      have e23 := x2.trans e3
      have A4 := A3.ext e3
      refine ⟨_, rfl, fl, _, rfl, gL (e2.trans e23), _, rfl, b, sb, ts, nOn ls, r, rfl, A4.b, A4.l.a, A4.n, A4.z, ex_t e23 hsb, hg.1, fun pk H4 hpk e4 h4 => ?_⟩
      have e24 := e23.trans e4
      have htl : (tabV ts rs).length = ls.length := by rw [tabV, List.length_map, List.length_range, hrl, A0.l.1]
      refine ⟨D, pk, tabV ts rs, _, litBy L ls r, rfl, hFz.ext e4, h4, by rw [htl, litBy, List.length_map, List.length_range], by rw [htl, ← A0.l.1]; exact A0.z, fun i key u yy hi hy => ?_, fun q H5 hq e5 h5 => kk q H5 (fresh_back e24 hq) (e24.trans e5) h5⟩
      have hil : i < ls.length := by
        rw [← htl]
        exact (List.getElem?_eq_some_iff.mp hi).1
      have hit : i < ts.length := by rw [A0.l.1]; exact hil
      have hir : i < rs.length := by rw [hrl]; exact hit
      have htab : (tabV ts rs)[i]? = some (ts[i].1, V.ref rs[i]) := by
        unfold tabV
        rw [List.getElem?_map, List.getElem?_range hir]
        show some ((ts.getD i (.inl 0, .non)).1, V.ref (rs.getD i 0)) = _
        rw [List.getD_eq_getElem?_getD, List.getElem?_eq_getElem hit, List.getD_eq_getElem?_getD, List.getElem?_eq_getElem hir] <;> rfl
      cases htab.symm.trans hi
      obtain ⟨p0, p1⟩ := pval_ok hg A0.o (List.getElem?_eq_getElem hil)
      have hyy : yy = (rowT L ls[i]).getD (pval (nOn ls) r i).toNat (0, 0, 0) := by
        have z : (litBy L ls r)[i]? = some ((rowT L (ls.getD i ([], false))).getD (pval (nOn ls) r i).toNat (0, 0, 0)) := by
          unfold litBy
          rw [List.getElem?_map, List.getElem?_range hil] <;> rfl
        rw [List.getD_eq_getElem?_getD (l := ls), List.getElem?_eq_getElem hil] at z
        cases z.symm.trans hy
        rfl
      have hlr : (rowT L ls[i]).length = ls[i].1.length := by rw [rowT, List.length_map]
      refine ⟨rs[i], rowT L ls[i], (pval (nOn ls) r i).toNat, rfl, (hrows i rs[i] ls[i] (List.getElem?_eq_getElem hir) (List.getElem?_eq_getElem hil)).ext e4, ?_, ?_⟩
      · rw [Int.toNat_of_nonneg p0]
        exact valV_pk A0.n ts.length (Nat.le_refl _) i hit _ ts[i].2 (List.getElem?_eq_getElem hit)
      · rw [hyy, List.getD_eq_getElem?_getD, List.getElem?_eq_getElem (by rw [hlr]; exact p1)] <;> rfl
end
end Hs
namespace Hs
open PySem PySem.Spec PyProof.Rows L2 Evl
abbrev Pt := Int × Int
def prV (x : Pt) : List V := [.int x.1, .int x.2]
theorem bag_ne {H : Hp} {b l p : Addr} {ns : List Int} {n : Nat} (B : BagAt H b l ns n) (hp : H p = none) : p ≠ b := fun z => by
  obtain ⟨i, y, s, c, h, _⟩ := B.ex
  rw [← z, hp] at h
  cases h
theorem But.fresh {H H' : Hp} {b l p : Addr} {ns : List Int} {n : Nat} (k : But H H' b) (B : BagAt H' b l ns n) (hp : H' p = none) : H p = none := by
  cases h : H p with
  | none => rfl
  | some o =>
    have := k p o h (bag_ne B hp)
    rw [hp] at this
    cases this
theorem But.tup {H H' : Hp} {b l p : Addr} {ns : List Int} {n : Nat} {xs : List V} (k : But H H' b) (B : BagAt H b l ns n) (h : H p = some (.tup xs)) : H' p = some (.tup xs) := by
  obtain ⟨ys, hb⟩ := bag_lst B
  refine k _ _ h fun z => ?_
  rw [z, hb] at h
  cases h
def Grid (w x y : Int) : Prop := (1 ≤ w ∧ w ≤ 60) ∧ x.natAbs + w.natAbs ≤ 1000000 ∧ y.natAbs + w.natAbs ≤ 1000000
def spGrid : Sp := fun vs H Q _ => ∃ (b l : Addr) (ns : List Int) (n : Nat), vs = [.ref b] ∧ BagAt H b l ns n ∧ n < 900000 ∧ ∀ (p : Addr) (w x y : Int) (H' : Hp), Grid w x y → H p = none → H' p = some (.tup [.int w, .int x, .int y]) → BagAt H' b l ns (n + 3) → But H H' b → Q (.ref p) H'
def Near (z : Pt) : Prop := z.1.natAbs ≤ 1000000 ∧ z.2.natAbs ≤ 1000000
def spSpot : Sp := fun vs H Q _ => ∃ (b l g : Addr) (ns : List Int) (n : Nat) (w x y : Int), vs = [.ref b, .ref g] ∧ BagAt H b l ns n ∧ n < 900000 ∧ H g = some (.tup [.int w, .int x, .int y]) ∧ Grid w x y ∧
  ∀ (p : Addr) (z : Pt) (H' : Hp), Near z → H p = none → H' p = some (.tup (prV z)) → BagAt H' b l ns (n + 2) → But H H' b → Q (.ref p) H'
section
variable {P : Program} {w : World} {K : PySem.W.Frag} {mg : Str → Option Value} {base : Heap} {f : Addr} {fd : FuncData}
abbrev sGrid : Stmt := top 112
theorem scGrid : FnScope ["_law_bag_here", "_law_way"] ["_law_bag_here"] (defScope sGrid) := ⟨rfl, rfl, rfl, by decide +kernel, rfl, by decide +kernel, by decide +kernel⟩
theorem ok_grid (F : FnP K "_law_grid" sGrid f fd) (O__law_pull : Own P w K mg base 1 "_law_pull" ["_law_bag_here", "_law_many"] spPull) : FnOk P w K mg base CX0 2 f fd ["_law_bag_here"] spGrid := by
  have nd := scGrid.nd
  refine F.ok scGrid (fun vs H Q E h => ?_) (fun cdv A outer s H vs Q E hr h => ⟨_, PSs.nox (pss_cons (ps_set (i := 1) nd rfl (.inl rfl) (Hs.pe_own O__law_pull hr (by first | decide | omega) (by rfl) (pa_cons (pv 0) (pa_cons pe_int pa_nil))))
  (pss_cons (ps_if (pt_cmpR op_lt (pv 1) pe_int (nomark _)) (pss_one (ps_ret (pe_tup (pa_cons pe_int (pa_cons pe_int (pa_cons pe_int pa_nil)))))) pss_nil)
  (pss_cons (ps_if (pt_cmpR op_eq (pv 1) pe_int (nomark _)) (pss_one (ps_ret (pe_tup (pa_cons (pe_op op_add pe_int (Hs.pe_own O__law_pull hr (by first | decide | omega) (by rfl) (pa_cons (pv 0) (pa_cons pe_int pa_nil)))) (pa_cons pe_int (pa_cons pe_int pa_nil)))))) pss_nil)
  (pss_one (ps_ret (pe_tup (pa_cons pe_int (pa_cons (pe_op op_mulW (pe_op op_sub (pe_op op_pow pe_int pe_int) pe_int) (pe_op op_sub (pe_op op_mulW pe_int (Hs.pe_own O__law_pull hr (by first | decide | omega) (by rfl) (pa_cons (pv 0) (pa_cons pe_int pa_nil)))) pe_int)) (pa_cons (pe_op op_mulW (pe_op op_sub (pe_op op_pow pe_int pe_int) pe_int) (pe_op op_sub (Hs.pe_own O__law_pull hr (by first | decide | omega) (by rfl) (pa_cons (pv 0) (pa_cons pe_int pa_nil))) pe_int)) pa_nil))))))))), ?_⟩)
  · obtain ⟨b, l, ns, n, rfl, _⟩ := h
    rfl
  · obtain ⟨b, l, ns, n, rfl, B, hn, k⟩ := h
    refine ⟨_, rfl, b, l, ns, n, 6, rfl, B, by omega, by decide, by decide, fun v H1 v0 v1 B1 b1 => ?_⟩
    refine q_when (et_test (ev_op (ev_var rfl) ev_c rv_I0)) (fun ht H2 e2 => ?_) (fun ht H2 e2 => ?_)
    · exact s_retU (eu_tup (ea_cons ev_c (ea_cons ev_c (ea_cons ev_c ea_nil))) (by simp)) fun p H3 hp e3 h3 => k p 4 0 0 H3 ⟨by decide, by decide, by decide⟩ (b1.fresh B1 (fresh_back e2 hp)) h3 (B1.ext (e2.trans e3) (by omega)) (b1.ex (e2.trans e3))
    · refine q_when (et_test (ev_op (ev_var rfl) ev_c (rv_eq rfl))) (fun ht H3 e3 => ?_) (fun ht H3 e3 => ?_)
      · have e23 := e2.trans e3
        refine ⟨_, rfl, b, l, ns, n + 1, 60, rfl, B1.ext e23 (Nat.le_refl _), by omega, by decide, by decide, fun v2 H4 v20 v21 B4 b4 => ⟨_, _, rfl, rfl, sz_of (by simp), fun p hp => ?_⟩⟩
        have b14 := (b1.ex e23).trans b4
        exact k p _ _ _ _ ⟨⟨by omega, by omega⟩, by omega, by omega⟩ (b14.fresh B4 hp) upd_same (B4.ext (Ex.new hp) (by omega)) (b14.ex (Ex.new hp))
      · have e23 := e2.trans e3
        refine ⟨_, _, rfl, rfl, ⟨by decide, by decide, by decide⟩, _, _, rfl, rfl, _, rfl, b, l, ns, n + 1, 2, rfl, B1.ext e23 (Nat.le_refl _), by omega, by decide, by decide, fun v2 H4 v20 v21 B4 b4 => ⟨_, _, rfl, rfl, mul64 (by decide) (by omega), _, _, rfl, rfl, _, _, rfl, rfl, mul64 (by decide) (by omega), ?_⟩⟩
        refine ⟨_, _, rfl, rfl, ⟨by decide, by decide, by decide⟩, _, _, rfl, rfl, _, rfl, b, l, ns, n + 2, 3, rfl, B4, by omega, by decide, by decide, fun v3 H5 v30 v31 B5 b5 => ⟨_, _, rfl, rfl, _, _, rfl, rfl, mul64 (by decide) (by omega), sz_of (by simp), fun p hp => ?_⟩⟩
        have b15 := ((b1.ex e23).trans b4).trans b5
        have t6 : (10 : Int) ^ Int.toNat 6 = 1000000 := by decide
        exact k p _ _ _ _ ⟨⟨by omega, by omega⟩, by rw [t6]; omega, by rw [t6]; omega⟩ (b15.fresh B5 hp) upd_same (B5.ext (Ex.new hp) (by omega)) (b15.ex (Ex.new hp))
abbrev sSpot : Stmt := top 113
theorem scSpot : FnScope ["_law_bag_here", "_law_grid_here", "_law_wide", "_law_across", "_law_north", "_law_first"] ["_law_bag_here", "_law_grid_here"] (defScope sSpot) := ⟨rfl, rfl, rfl, by decide +kernel, rfl, by decide +kernel, by decide +kernel⟩
theorem ok_spot (F : FnP K "_law_spot" sSpot f fd) (O__law_pull : Own P w K mg base 1 "_law_pull" ["_law_bag_here", "_law_many"] spPull) : FnOk P w K mg base CX0 2 f fd ["_law_bag_here", "_law_grid_here"] spSpot := by
  have nd := scSpot.nd
  refine F.ok scSpot (fun vs H Q E h => ?_) (fun cdv A outer s H vs Q E hr h => ⟨_, PSs.nox (pss_cons (ps_asg (pv 1) (pg_tup rfl (pgs_cons (pg_name (i := 2) nd rfl (.inl rfl)) (pgs_cons (pg_name (i := 3) nd rfl (.inl rfl)) (pgs_cons (pg_name (i := 4) nd rfl (.inl rfl)) pgs_nil)))))
  (pss_cons (ps_set (i := 5) nd rfl (.inl rfl) (pe_op op_sub (pe_op op_add (pv 3) (Hs.pe_own O__law_pull hr (by first | decide | omega) (by rfl) (pa_cons (pv 0) (pa_cons (pe_op op_add (pe_op op_mulW pe_int (pv 2)) pe_int) pa_nil)))) (pv 2)))
  (pss_one (ps_ret (pe_tup (pa_cons (pv 5) (pa_cons (pe_op op_sub (pe_op op_add (pv 4) (Hs.pe_own O__law_pull hr (by first | decide | omega) (by rfl) (pa_cons (pv 0) (pa_cons (pe_op op_add (pe_op op_mulW pe_int (pv 2)) pe_int) pa_nil)))) (pv 2)) pa_nil))))))), ?_⟩)
  · obtain ⟨b, l, g, ns, n, w, x, y, rfl, _⟩ := h
    rfl
  · obtain ⟨b, l, g, ns, n, w, x, y, rfl, B, hn, hg, G, k⟩ := h
    obtain ⟨⟨w0, w1⟩, gx, gy⟩ := G
    refine ⟨_, rfl, g, _, rfl, st_of hg, rfl, _, _, rfl, _, _, rfl, _, _, rfl, rfl, ?_⟩
    show tSeq _ _ _ [some (.ref b), some (.ref g), some (.int w), some (.int x), some (.int y), none] H
    refine ⟨_, rfl, _, rfl, _, rfl, _, _, rfl, rfl, mul64 (by decide) (by omega), _, _, rfl, rfl, b, l, ns, n, _, rfl, B, by omega, by omega, by omega, fun v H1 v0 v1 B1 b1 => ⟨_, _, rfl, rfl, _, rfl, _, _, rfl, rfl, ?_⟩⟩
    refine ⟨_, rfl, _, rfl, _, rfl, _, rfl, _, _, rfl, rfl, mul64 (by decide) (by omega), _, _, rfl, rfl, b, l, ns, n + 1, _, rfl, B1, by omega, by omega, by omega, fun v2 H2 v20 v21 B2 b2 => ⟨_, _, rfl, rfl, _, rfl, _, _, rfl, rfl, sz_of (by simp), fun p hp => ?_⟩⟩
    have b12 := b1.trans b2
    refine k p (x + v - w, y + v2 - w) _ ⟨?_, ?_⟩ (b12.fresh B2 hp) upd_same (B2.ext (Ex.new hp) (by omega)) (b12.ex (Ex.new hp))
    · show (x + v - w).natAbs ≤ _
      omega
    · show (y + v2 - w).natAbs ≤ _
      omega
end
section
variable {σ : L2.St} {H : Hp} {K : PySem.W.Frag} {t : TT} {te : TE}
theorem ev_sum {tl : TE} {ns : List Int} (h : EvL tl σ H (ns.map V.int)) : Ev (tCB (rSum K) (tCons tl tNil)) σ H (.int ns.sum) := fun H1 e Q q =>
  h H1 e _ fun p H2 hp e2 h2 => ⟨p, ns, rfl, sq_of h2, q H2 e2⟩
theorem eu_tuple {tl : TE} {xs : List V} (h : EvL tl σ H xs) : ∀ (H1 : Hp), Ex H H1 → ∀ Q : VK, (∀ p H2, H1 p = none → Ex H1 H2 → H2 p = some (.tup xs) → Q (.ref p) H2) →
    tCB (fun xs H Q => ∃ p ys, xs = [V.ref p] ∧ ((SqL K H p ys ∧ ∀ l, H l = none → Q (.ref l) (upd H l (.tup ys))) ∨ (SqT K H p ys ∧ Q (.ref p) H))) (tCons tl tNil) σ H1 Q := fun H1 e Q q =>
  h H1 e _ fun p H2 hp e2 h2 => ⟨p, xs, rfl, .inl ⟨sq_of h2, fun l hl => q l _ (fresh_back e2 hl) (e2.trans (Ex.new hl)) upd_same⟩⟩
end
section
variable {P : Program} {w : World} {K : PySem.W.Frag} {mg : Str → Option Value} {base : Heap} {f : Addr} {fd : FuncData}
/-! ### the law's own sums -/
def spSum (K : PySem.W.Frag) : Sp := fun vs H Q _ => ∃ (a : Addr) (ps : List Addr) (xs : List Tri), vs = [.ref a] ∧ SqL K H a (ps.map V.ref) ∧ Lights K H ps xs ∧ xs.length ≤ 1000 ∧ RetU (tri (sum3 xs)) H Q
abbrev sSum : Stmt := top 111
theorem scSum : FnScope ["_law_some", "_law_k", "_law_one"] ["_law_some"] (defScope sSum) := ⟨rfl, rfl, rfl, by decide +kernel, rfl, by decide +kernel, by decide +kernel⟩
/-- the k-th part -/
def part (k : Nat) (x : Tri) : Int := [x.1, x.2.1, x.2.2].getD k 0
theorem part_at {x : Tri} {k : Nat} (h : k < 3) : atI (tri x) (k : Int) = some (.int (part k x)) := by
  obtain rfl | rfl | rfl : k = 0 ∨ k = 1 ∨ k = 2 := by omega
  · rfl
  · rfl
  · rfl
theorem given_all {n : Nat} {v : Nat → V} : given n (fun _ => true) v = (List.range n).map v := by
  unfold given
  rw [List.filter_eq_self.mpr fun _ _ => rfl]
theorem parts_given {xs : List Tri} {k : Nat} : given xs.length (fun _ => true) (fun i => .int (part k (xs.getD i (0, 0, 0)))) = (xs.map (part k)).map V.int := by
  rw [given_all]
  refine List.ext_getElem (by simp) fun i h1 h2 => ?_
  simp [List.getD_eq_getElem?_getD]
  rw [List.getElem?_eq_getElem (by simpa using h2)]
  rfl
theorem ok_sum (F : FnP K "_law_sum" sSum f fd) (g_tuple : mg "tuple" = none) (g_range : mg "range" = none) (g_sum : mg "sum" = none) : FnOk P w K mg base CX0 1 f fd ["_law_some"] (spSum K) := by
  have nd := scSum.nd
  refine F.ok scSum (fun vs H Q E h => ?_) (fun cdv A outer s H vs Q E hr h => ⟨_, PSs.nox (pss_one (ps_ret (pe_callTy call_tuple_of (by rfl) g_tuple (by decide +kernel) (pa_cons (pe_lc (own := [("_law_k", 1)]) rfl nd (pi_range1 (by rfl) g_range (pa_cons pe_int pa_nil)) (blkOk_by (N := ["_law_some", "_law_k", "_law_one"]) (sc := defScope (Hs.top 111)) (by decide +kernel)) (fun _ _ _ _ _ => (pg_name (i := 1) nd rfl (Or.inr rfl))) (fun _ _ _ _ _ => pts_nil) (fun _ _ _ _ _ => (pe_callB (r := rSum K) (cr_sum rfl) (by rfl) g_sum (by decide +kernel) (pa_cons (pe_lc (own := [("_law_one", 2)]) rfl nd (Hs.pi_listK (K := K) (pv 0)) (blkOk_by (N := ["_law_some", "_law_k", "_law_one"]) (by rfl)) (fun _ _ _ _ _ => (pg_name (i := 2) nd rfl (Or.inl rfl))) (fun _ _ _ _ _ => pts_nil) (fun _ _ _ _ _ => (pe_ix (r := rIxT K) ix_tup (pv 2) (pv 1) (fun _ _ => rfl)))) pa_nil)))) pa_nil)))), ?_⟩)
  · obtain ⟨a, ps, xs, rfl, _⟩ := h
    rfl
  · obtain ⟨a, ps, xs, rfl, hS, ⟨hl, hL⟩, hz, k⟩ := h
    refine eu_tuple (K := K) (xs := tri (sum3 xs)) (el_lcR1 (n := 3) (fun _ => true) (fun i => .int ((xs.map (part i)).sum)) (ea_cons ev_c ea_nil) (by decide) (fun _ => rfl) (fun i H1 _ _ => et_yes) (fun i H1 e1 hi _ => ?_)) H (Ex.refl H) _ k
    refine ev_sum (K := K) ?_
    rw [← parts_given]
    have hl2 : (ps.map V.ref).length = xs.length := by rw [List.length_map, hl]
    rw [← hl2]
    refine el_lcL (fun _ => true) _ (ev_var rfl) (ex_l e1 hS) (by omega) (fun _ => rfl) (fun i x H2 _ _ => et_yes) (fun j x H2 e2 hx _ => ?_)
    rw [List.getElem?_map] at hx
    obtain ⟨p, hp, rfl⟩ := Option.map_eq_some_iff.mp hx
    obtain ⟨y, hy⟩ : ∃ y, xs[j]? = some y := by
      have : j < xs.length := by
        rw [← hl]
        exact (List.getElem?_eq_some_iff.mp hp).1
      exact ⟨_, List.getElem?_eq_getElem this⟩
    have hy1 := ex_t (e1.trans e2) (hL j p y hp hy)
    have ey : xs.getD j (0, 0, 0) = y := by
      rw [List.getD_eq_getElem?_getD, hy]
      rfl
    rw [ey]
    exact ev_op (ev_var rfl) (ev_var rfl) (rv_ixT hy1 (part_at (by omega)))
def triB (x : Tri) : Prop := (0 ≤ x.1 ∧ x.1 ≤ 1000000) ∧ (0 ≤ x.2.1 ∧ x.2.1 ≤ 1000000) ∧ (0 ≤ x.2.2 ∧ x.2.2 ≤ 1000000)
def spTint : Sp := fun vs H Q _ => ∃ (b l : Addr) (ns : List Int) (n : Nat), vs = [.ref b] ∧ BagAt H b l ns n ∧ n < 900000 ∧ ∀ (p : Addr) (x : Tri) (H' : Hp), triB x → H p = none → H' p = some (.tup (tri x)) → BagAt H' b l ns (n + 6) → But H H' b → Q (.ref p) H'
abbrev sTint : Stmt := top 114
theorem scTint : FnScope ["_law_bag_here", "_law_found", "_law_k", "_law_wide"] ["_law_bag_here"] (defScope sTint) := ⟨rfl, rfl, rfl, by decide +kernel, rfl, by decide +kernel, by decide +kernel⟩
theorem tint_at {wd v : Int} (hw : 0 ≤ wd ∧ wd ≤ 1000000) (h0 : 0 ≤ v) (h1 : v < 6) : ∃ z : Int, atI [V.int 0, .int 1, .int 255, .int (10 ^ 6), .int (wd.fmod 10), .int wd] v = some (.int z) ∧ 0 ≤ z ∧ z ≤ 1000000 := by
  have hm := modP (i := wd) (j := 10) (by decide)
  obtain rfl | rfl | rfl | rfl | rfl | rfl : v = 0 ∨ v = 1 ∨ v = 2 ∨ v = 3 ∨ v = 4 ∨ v = 5 := by omega
  · exact ⟨_, rfl, by decide, by decide⟩
  · exact ⟨_, rfl, by decide, by decide⟩
  · exact ⟨_, rfl, by decide, by decide⟩
  · exact ⟨_, rfl, by decide, by decide⟩
  · exact ⟨_, rfl, by omega, by omega⟩
  · exact ⟨_, rfl, hw.1, hw.2⟩
theorem ok_tint (F : FnP K "_law_tint" sTint f fd) (O__law_pull : Own P w K mg base 1 "_law_pull" ["_law_bag_here", "_law_many"] spPull) (g_range : mg "range" = none) (g_tuple : mg "tuple" = none) : FnOk P w K mg base CX0 2 f fd ["_law_bag_here"] spTint := by
  have nd := scTint.nd
  refine F.ok scTint (fun vs H Q E h => ?_) (fun cdv A outer s H vs Q E hr h => ⟨_, PSs.nox (pss_cons (ps_set (i := 1) nd rfl (.inl rfl) (pe_lst pa_nil))
  (pss_cons (ps_for PassesOwn.never rfl (pi_range1 (by rfl) g_range (pa_cons pe_int pa_nil)) (pg_name (i := 2) nd rfl (.inl rfl)) (pss_cons (ps_set (i := 3) nd rfl (.inl rfl) (Hs.pe_own O__law_pull hr (by first | decide | omega) (by rfl) (pa_cons (pv 0) (pa_cons (pe_op op_add (pe_op op_pow pe_int pe_int) pe_int) pa_nil))))
  (pss_one (ps_expr (pe_bm PySem.F.plainAttrs_list PySem.F.slot_list_append PySem.F.type_list_append mt_append (pv 1) (pa_cons (pe_ix (r := rIxL K) ix_list (pe_lst (pa_cons pe_int (pa_cons pe_int (pa_cons pe_int (pa_cons (pe_op op_pow pe_int pe_int) (pa_cons (pe_op op_modN (pv 3) pe_int) (pa_cons (pv 3) pa_nil))))))) (Hs.pe_own O__law_pull hr (by first | decide | omega) (by rfl) (pa_cons (pv 0) (pa_cons pe_int pa_nil))) (fun _ _ => rfl)) pa_nil))))))
  (pss_one (ps_ret (pe_callTy call_tuple_of (by rfl) g_tuple (by decide +kernel) (pa_cons (pv 1) pa_nil)))))), ?_⟩)
  · obtain ⟨b, l, ns, n, rfl, _⟩ := h
    rfl
  · obtain ⟨b, l, ns, n, rfl, B, hn, k⟩ := h
    refine ⟨sz_of (by simp), fun fl hfl => ?_⟩
    have nfb := bag_ne B hfl
    have nfl : fl ≠ l := Ne.symm (ne_of_none B.ls hfl)
    show tSeq _ _ _ [some (.ref b), some (.ref fl), none, none] _
    refine q_forR1 (n := 3) (ea_cons ev_c ea_nil) (by decide) (fun i σ' H' => ∃ (v2 v3 : Option V) (zs : List Int), σ' = [some (.ref b), some (.ref fl), v2, v3] ∧ BagAt H' b l ns (n + 2 * i) ∧ But H H' b ∧ H' fl = some (.lst (zs.map V.int)) ∧ zs.length = i ∧ ∀ z ∈ zs, 0 ≤ z ∧ z ≤ 1000000) ?_ ?_ ?_
    · intro H1 e1
      exact ⟨none, none, [], rfl, (B.ext (Ex.new hfl) (Nat.le_refl _)).ext e1 (by omega), But.of ((Ex.new hfl).trans e1), e1 _ _ upd_same, rfl, fun z hz => by cases hz⟩
    · rintro i σ' H1 hi ⟨v2, v3, zs, rfl, B1, b1, hf1, hz, hzs⟩
      refine ⟨_, rfl, _, _, rfl, rfl, ⟨by decide, by decide, by decide⟩, _, _, rfl, rfl, b, l, ns, n + 2 * i, _, rfl, B1, by omega, by decide, by decide, fun wd H2 w0 w1 B2 b2 => ?_⟩
      have hf2 := b2 _ _ hf1 nfb
      have wb : 0 ≤ wd ∧ wd ≤ 1000000 := ⟨w0, by
        have e : (10 : Int) ^ Int.toNat 6 = 1000000 := by decide
        omega⟩
      refine ⟨_, rfl, .inl ⟨rfl, _, sq_of hf2⟩, ?_⟩
      refine ⟨_, _, rfl, rfl, ⟨by decide, by decide, by decide⟩, _, rfl, _, _, rfl, rfl, (show (10 : Int) ≠ 0 by decide), _, rfl, sz_of (by simp), fun p hp => ?_⟩
      have e3 := Ex.new (o := .lst [V.int 0, .int 1, .int 255, .int (10 ^ 6), .int (wd.fmod 10), .int wd]) hp
      refine ⟨_, rfl, b, l, ns, n + 2 * i + 1, 6, rfl, B2.ext e3 (Nat.le_refl _), by omega, by decide, by decide, fun v H4 v0 v1 B4 b4 => ?_⟩
      obtain ⟨z, hat, z0, z1⟩ := tint_at wb v0 v1
      have hf4 := b4 _ _ (e3 _ _ hf2) nfb
      refine ⟨p, _, v, _, rfl, rfl, sq_of (b4 _ _ upd_same (bag_ne B2 hp)), hat, fl, _, _, rfl, rfl, hf4, sz_lt (by rw [List.length_map]; omega), ?_⟩
      refine ⟨_, _, zs ++ [z], rfl, bag_upd (B4.ext (Ex.refl _) (by omega)) (Ne.symm nfb) (Ne.symm nfl), fun a o ha hb => ?_, by rw [upd_same, List.map_append] <;> rfl, by rw [List.length_append, hz] <;> rfl, fun y hy => ?_⟩
      · rw [upd_ne (ne_of_none ha hfl)]
        exact b4 _ _ (e3 _ _ (b2 _ _ (b1 _ _ ha hb) hb)) hb
      · rcases List.mem_append.mp hy with q | q
        · exact hzs y q
        · rw [List.mem_singleton.mp q]
          exact ⟨z0, z1⟩
    · rintro σ' H1 ⟨v2, v3, zs, rfl, B1, b1, hf1, hz, hzs⟩
      obtain ⟨x, y, z, rfl⟩ : ∃ x y z, zs = [x, y, z] := match zs, hz with
        | [x, y, z], _ => ⟨x, y, z, rfl⟩
      refine ⟨_, rfl, fl, _, rfl, .inl ⟨sq_of hf1, fun p hp => ?_⟩⟩
      refine k p (x, y, z) _ ⟨hzs x (by simp), hzs y (by simp), hzs z (by simp)⟩ ?_ upd_same (B1.ext (Ex.new hp) (by show n + 2 * 3 ≤ n + 6; omega)) (b1.ex (Ex.new hp))
      cases hq : H p with
      | none => rfl
      | some o =>
        by_cases hpb : p = b
        · obtain ⟨i, y, s, c, h, _⟩ := B1.ex
          rw [hpb, h] at hp
          cases hp
        · rw [b1 _ _ hq hpb] at hp
          cases hp
def spFar : Sp := fun vs H Q _ => ∃ (b l : Addr) (ns : List Int) (n : Nat), vs = [.ref b] ∧ BagAt H b l ns n ∧ n < 900000 ∧ ∀ (z : Int) (H' : Hp), 1000000 < z.natAbs → z.natAbs < 2 ^ 200 → BagAt H' b l ns (n + 2) → But H H' b → Q (.int z) H'
abbrev sFar : Stmt := top 110
theorem scFar : FnScope ["_law_bag_here", "_law_way"] ["_law_bag_here"] (defScope sFar) := ⟨rfl, rfl, rfl, by decide +kernel, rfl, by decide +kernel, by decide +kernel⟩
theorem ok_far (F : FnP K "_law_far" sFar f fd) (O__law_pull : Own P w K mg base 1 "_law_pull" ["_law_bag_here", "_law_many"] spPull) : FnOk P w K mg base CX0 2 f fd ["_law_bag_here"] spFar := by
  have nd := scFar.nd
  refine F.ok scFar (fun vs H Q E h => ?_) (fun cdv A outer s H vs Q E hr h => ⟨_, PSs.nox (pss_cons (ps_set (i := 1) nd rfl (.inl rfl) (Hs.pe_own O__law_pull hr (by first | decide | omega) (by rfl) (pa_cons (pv 0) (pa_cons pe_int pa_nil))))
  (pss_cons (ps_if (pt_cmpR op_lt (pv 1) pe_int (nomark _)) (pss_one (ps_ret (pe_ix (r := rIxL K) ix_list (pe_lst (pa_cons pe_int (pa_cons (pe_un un_neg pe_int) pa_nil))) (pv 1) (fun _ _ => rfl)))) pss_nil)
  (pss_one (ps_ret (pe_op op_mulW (pe_op op_add (pe_op op_pow pe_int pe_int) (Hs.pe_own O__law_pull hr (by first | decide | omega) (by rfl) (pa_cons (pv 0) (pa_cons (pe_op op_pow pe_int pe_int) pa_nil)))) (pe_ix (r := rIxL K) ix_list (pe_lst (pa_cons pe_int (pa_cons (pe_un un_neg pe_int) pa_nil))) (pe_op op_sub (pv 1) pe_int) (fun _ _ => rfl))))))), ?_⟩)
  · obtain ⟨b, l, ns, n, rfl, _⟩ := h
    rfl
  · obtain ⟨b, l, ns, n, rfl, B, hn, k⟩ := h
    refine ⟨_, rfl, b, l, ns, n, 4, rfl, B, by omega, by decide, by decide, fun v H1 v0 v1 B1 b1 => ?_⟩
    dsimp only [gName, List.set]
    refine q_when (et_test (ev_op (ev_var rfl) ev_c rv_I0)) (fun ht H2 e2 => ?_) (fun ht H2 e2 => ?_)
    · have hv : v < 2 := of_decide_eq_true ht
      refine ⟨_, rfl, sz_of (by simp), fun p hp => ?_⟩
      have x := Ex.new (o := .lst [V.int 1000001, .int (-1000001)]) hp
      obtain ⟨z, hat, z1, z2⟩ : ∃ z : Int, atI [V.int 1000001, .int (-1000001)] v = some (.int z) ∧ 1000000 < z.natAbs ∧ z.natAbs < 2 ^ 200 := by
        obtain rfl | rfl : v = 0 ∨ v = 1 := by omega
        · exact ⟨_, rfl, by decide, by decide⟩
        · exact ⟨_, rfl, by decide, by decide⟩
      exact ⟨_, rfl, p, _, v, _, rfl, rfl, sq_of upd_same, hat, k z _ z1 z2 (B1.ext (e2.trans x) (by omega)) (b1.ex (e2.trans x))⟩
    · have hv : ¬ v < 2 := of_decide_eq_false ht
      refine ⟨_, _, rfl, rfl, ⟨by decide, by decide, by decide⟩, _, rfl, _, _, rfl, rfl, ⟨by decide, by decide, by decide⟩, b, l, ns, n + 1, _, rfl, B1.ext e2 (Nat.le_refl _), by omega, by decide, by decide, fun v2 H4 v20 v21 B4 b4 => ⟨_, _, rfl, rfl, ?_⟩⟩
      refine ⟨_, rfl, sz_of (by simp), fun p hp => ?_⟩
      have x := Ex.new (o := .lst [V.int 1, .int (-1)]) hp
      obtain ⟨z, hat, z1⟩ : ∃ z : Int, atI [V.int 1, .int (-1)] (v - 2) = some (.int z) ∧ (z = 1 ∨ z = -1) := by
        obtain rfl | rfl : v = 2 ∨ v = 3 := by omega
        · exact ⟨_, rfl, .inl rfl⟩
        · exact ⟨_, rfl, .inr rfl⟩
      have t29 : (10 : Int) ^ Int.toNat 29 = 100000000000000000000000000000 := by decide
      have t9 : (10 : Int) ^ Int.toNat 9 = 1000000000 := by decide
      rw [t9] at v21
      have t200 : (2 : Nat) ^ 200 = 1606938044258990275541962092341162602522202993782792835301376 := by decide
      refine ⟨_, rfl, _, _, rfl, rfl, p, _, _, _, rfl, rfl, sq_of upd_same, hat, _, _, rfl, rfl, ?_, k _ _ ?_ ?_ (B4.ext x (by omega)) (((b1.ex e2).trans b4).ex x)⟩
      · rw [t29]
        refine wide_mul (a := 200) (b := 200) ?_ ?_ (by decide) (by decide) (by decide)
        · rw [t200]
          omega
        · rw [t200]
          omega
      · rw [t29]
        rcases z1 with rfl | rfl <;> omega
      · rw [t29, t200]
        rcases z1 with rfl | rfl <;> omega
end
end Hs
namespace Hs
open PySem PySem.Spec PyProof.Rows L2 Evl
/-! ### a house with lamps of one choice each, and nothing else -/
def fldsH (s p q : Addr) : List (Str × V) := [("state", .ref s), ("past", .ref p), ("ahead", .ref q), ("trying", .bl false)]
def comV (n : Int) : List (Key × V) := [(.inr "lamp", .int n), (.inr "post", .int 1), (.inr "pane", .int 1), (.inr "look", .int 1)]
/-- tuples and what is frozen stay -/
structure Kp (H H' : Hp) : Prop where
  t : ∀ a xs, H a = some (.tup xs) → H' a = some (.tup xs)
  f : ∀ a od o, H a = some (.frz od o) → H' a = some (.frz od o)
theorem Kp.of {H H' : Hp} (e : Ex H H') : Kp H H' := ⟨fun _ _ h => e _ _ h, fun _ _ _ h => e _ _ h⟩
theorem Kp.ofN {H H' : Hp} (e : LamX.ExtN H H') : Kp H H' := ⟨fun _ _ h => e _ _ h (fun _ z => by cases z), fun _ _ _ h => e _ _ h (fun _ z => by cases z)⟩
theorem Kp.but {H H' : Hp} {b : Addr} {xs : List V} (hb : H b = some (.lst xs)) (e : But H H' b) : Kp H H' := ⟨fun _ _ h => e _ _ h (ne_of h hb (by intro z; cases z)), fun _ _ _ h => e _ _ h (ne_of h hb (by intro z; cases z))⟩
theorem Kp.upd {H : Hp} {b : Addr} {xs : List V} {o : HO} (hb : H b = some (.lst xs)) : Kp H (L2.upd H b o) := Kp.but hb (But.upd But.refl)
theorem Kp.fz {H H' : Hp} {a : Addr} {kvs : List (Key × V)} (e : Kp H H') (h : Fz H a kvs) : Fz H' a kvs := let ⟨od, h⟩ := h; ⟨od, e.f _ _ _ h⟩
theorem Kp.sqt {K : PySem.W.Frag} {H H' : Hp} {a : Addr} {xs : List V} (e : Kp H H') (h : SqT K H a xs) : SqT K H' a xs := by
  rcases h with (h | ⟨od, h⟩) | h
  · exact .inl (.inl (e.t _ _ h))
  · exact .inl (.inr ⟨od, e.f _ _ _ h⟩)
  · exact .inr h
theorem Kp.tup {H H' : Hp} {a : Addr} {xs : List V} (e : Kp H H') (h : H a = some (.tup xs)) : H' a = some (.tup xs) := e.t _ _ h
theorem Kp.lamps {H H' : Hp} {ts : List (Key × V)} {ls : List (List Chc × Bool)} (e : Kp H H') (h : LampsG H ts ls) : LampsG H' ts ls := h.keep fun _ _ z => e.tup z
theorem Kp.sta {K : PySem.W.Frag} {H H' : Hp} {s fl lk cm : Addr} {kvs ls cs : List (Key × V)} (e : Kp H H') (h : StA K H s fl lk cm kvs ls cs) : StA K H' s fl lk cm kvs ls cs := ⟨e.sqt h.t, e.fz h.f, e.fz h.l, e.fz h.c⟩
def KeysUp (ts : List (Key × V)) : Prop := ts.map (·.1) = (List.range ts.length).map fun i : Nat => (Sum.inl ((i : Int) + 1) : Key)
theorem KeysUp.nodup {ts : List (Key × V)} (h : KeysUp ts) : (ts.map (·.1)).Nodup := by
  rw [h]
  refine List.Pairwise.map _ (fun a b hab e => hab ?_) List.nodup_range
  have e2 : (a : Int) + 1 = (b : Int) + 1 := Sum.inl.inj e
  omega
theorem KeysUp.at {ts : List (Key × V)} (h : KeysUp ts) {i : Nat} (hi : i < ts.length) : ts[i].1 = Sum.inl ((i : Int) + 1) := by
  have e : (ts.map (·.1))[i]? = ((List.range ts.length).map fun i : Nat => (Sum.inl ((i : Int) + 1) : Key))[i]? := by rw [← h]
  rw [List.getElem?_map, List.getElem?_map, List.getElem?_eq_getElem hi, List.getElem?_range hi] at e
  exact Option.some.inj e
theorem KeysUp.new {ts : List (Key × V)} (h : KeysUp ts) {v : V} : putK ts (.inl ((ts.length : Int) + 1)) v = ts ++ [(.inl ((ts.length : Int) + 1), v)] := by
  refine putK_new fun p hp e => ?_
  have hm : p.1 ∈ ts.map (·.1) := List.mem_map.mpr ⟨p, hp, rfl⟩
  rw [h, e] at hm
  obtain ⟨i, hi, e2⟩ := List.mem_map.mp hm
  have hi := List.mem_range.mp hi
  have e3 : (i : Int) + 1 = (ts.length : Int) + 1 := Sum.inl.inj e2
  omega
theorem KeysUp.snoc {ts : List (Key × V)} (h : KeysUp ts) {v : V} : KeysUp (ts ++ [(.inl ((ts.length : Int) + 1), v)]) := by
  unfold KeysUp
  rw [List.map_append, h, List.length_append, List.length_singleton, List.range_succ, List.map_append] <;> rfl
theorem putK_at : ∀ {ts : List (Key × V)} {i : Nat} {k : Key} {v v' : V}, (ts.map (·.1)).Nodup → ts[i]? = some (k, v) → putK ts k v' = ts.set i (k, v') := fun {ts i k v v'} hn h => by
  have hi : i < ts.length := (List.getElem?_eq_some_iff.mp h).1
  have ha : (ts.any fun kv => decide (kv.1 = k)) = true := List.any_eq_true.mpr ⟨_, List.mem_of_getElem? h, decide_eq_true rfl⟩
  unfold putK
  rw [if_pos ha]
  refine List.ext_getElem? fun j => ?_
  rw [List.getElem?_map, List.getElem?_set]
  by_cases e : i = j
  · subst e
    rw [if_pos rfl, if_pos hi, h]
    show some (if k = k then (k, v') else (k, v)) = _
    rw [if_pos rfl]
  · rw [if_neg e]
    cases hj : ts[j]? with
    | none => rfl
    | some z =>
      show some (if z.1 = k then (z.1, v') else z) = some z
      rw [if_neg]
      intro ez
      have e2 : (ts.map (·.1))[i]? = (ts.map (·.1))[j]? := by
        rw [List.getElem?_map, List.getElem?_map, h, hj]
        show some k = some z.1
        rw [ez]
      exact e ((List.getElem?_inj (by rw [List.length_map]; exact hi) hn).mp e2)
theorem KeysUp.set {ts : List (Key × V)} (h : KeysUp ts) {i : Nat} {v : V} (hi : i < ts.length) : KeysUp (ts.set i (.inl ((i : Int) + 1), v)) := by
  unfold KeysUp
  rw [List.length_set, ← h, List.map_set]
  refine List.ext_getElem? fun j => ?_
  rw [List.getElem?_set]
  by_cases e : i = j
  · subst e
    rw [if_pos rfl, if_pos (by rw [List.length_map]; exact hi), List.getElem?_map, List.getElem?_eq_getElem hi]
    show some (Sum.inl ((i : Int) + 1)) = some ts[i].1
    rw [h.at hi]
  · rw [if_neg e]
theorem LampsG.snoc {H : Hp} {ts : List (Key × V)} {ls : List (List Chc × Bool)} {k : Key} {th : Addr} {z : List Chc × Bool} (h : LampsG H ts ls) (l : LampG H th z.1 z.2) : LampsG H (ts ++ [(k, .ref th)]) (ls ++ [z]) := by
  refine ⟨by rw [List.length_append, List.length_append, h.1] <;> rfl, fun j k' v z' hp hr => ?_⟩
  by_cases hj : j < ts.length
  · rw [List.getElem?_append_left hj] at hp
    rw [List.getElem?_append_left (by rw [← h.1]; exact hj)] at hr
    exact h.2 j k' v z' hp hr
  · rw [List.getElem?_append_right (by omega)] at hp
    rw [List.getElem?_append_right (by rw [← h.1]; omega), ← h.1] at hr
    have e0 : j - ts.length = 0 := by
      have : j - ts.length < 1 := (List.getElem?_eq_some_iff.mp hp).1
      omega
    rw [e0] at hp hr
    cases hp
    cases hr
    exact ⟨th, rfl, l⟩
theorem LampsG.set {H : Hp} {ts : List (Key × V)} {ls : List (List Chc × Bool)} {k : Key} {th : Addr} {z : List Chc × Bool} {i : Nat} (h : LampsG H ts ls) (l : LampG H th z.1 z.2) : LampsG H (ts.set i (k, .ref th)) (ls.set i z) := by
  refine ⟨by rw [List.length_set, List.length_set, h.1], fun j k' v z' hp hr => ?_⟩
  rw [List.getElem?_set] at hp hr
  by_cases e : i = j
  · rw [if_pos e] at hp hr
    by_cases hi : i < ts.length
    · rw [if_pos hi] at hp
      rw [if_pos (by rw [← h.1]; exact hi)] at hr
      cases hp
      cases hr
      exact ⟨th, rfl, l⟩
    · rw [if_neg hi] at hp
      cases hp
  · rw [if_neg e] at hp hr
    exact h.2 j k' v z' hp hr
theorem LampA.g {H : Hp} {th : Addr} {on : Bool} {x y r g u : Int} (h : LampA H th on [x, y, r, g, u]) : LampG H th [(x, y, (r, g, u))] on := by
  obtain ⟨ch, c1, h1, h2, h3⟩ := h.ex
  refine ⟨ch, [c1], h1, h2, rfl, fun i p c hp hc => ?_⟩
  match i, hp, hc with
  | 0, hp, hc =>
    cases hp
    cases hc
    exact h3
  | i + 1, hp, hc => cases hp
theorem LampG.a1 {H : Hp} {th : Addr} {on : Bool} {c : Chc} (h : LampG H th [c] on) : LampA H th on [c.1, c.2.1, c.2.2.1, c.2.2.2.1, c.2.2.2.2] := by
  obtain ⟨ch, ps, h1, h2, h3, h4⟩ := h.ex
  obtain ⟨p, rfl⟩ : ∃ p, ps = [p] := match ps, h3 with
    | [p], _ => ⟨p, rfl⟩
  exact ⟨ch, p, h1, h2, h4 0 p c rfl rfl⟩
/-- the house at h, its past at p, what is ahead at q; at most m deeds -/
structure HsA (K : PySem.W.Frag) (C : Addr) (H : Hp) (h dx p q : Addr) (m : Nat) (ls : List (List Chc × Bool)) : Prop where
  ex : ∃ (s fl lk cm b q2 q3 : Addr) (ts : List (Key × V)) (ps : List V), H h = some (.ins C dx (fldsH s p q)) ∧ H p = some (.lst ps) ∧ ps.length ≤ m ∧ H q = some (.lst []) ∧ p ≠ q ∧ StA K H s fl lk cm (bareV b q2 q3) [] (comV ((ls.length : Int) + 1)) ∧ Fz H b ts ∧ Fz H q2 [] ∧ Fz H q3 [] ∧ LampsG H ts ls ∧ KeysUp ts
  one : ∀ z ∈ ls, z.1.length = 1
  few : ls.length ≤ 1000
theorem HsA.keep {K : PySem.W.Frag} {C : Addr} {H H' : Hp} {h dx p q : Addr} {m m' : Nat} {ls : List (List Chc × Bool)} (a : HsA K C H h dx p q m ls) (e : Kp H H') (eh : ∀ o, H h = some o → H' h = some o) (ep : ∀ o, H p = some o → H' p = some o) (eq : ∀ o, H q = some o → H' q = some o) (hm : m ≤ m') : HsA K C H' h dx p q m' ls := by
  obtain ⟨s, fl, lk, cm, b, q2, q3, ts, ps, h1, h2, h3, h4, h5, h6, h7, h8, h9, h10, h11⟩ := a.ex
  exact ⟨⟨s, fl, lk, cm, b, q2, q3, ts, ps, eh _ h1, ep _ h2, by omega, eq _ h4, h5, e.sta h6, e.fz h7, e.fz h8, e.fz h9, e.lamps h10, h11⟩, a.one, a.few⟩
theorem HsA.ext {K : PySem.W.Frag} {C : Addr} {H H' : Hp} {h dx p q : Addr} {m : Nat} {ls : List (List Chc × Bool)} (a : HsA K C H h dx p q m ls) (e : Ex H H') : HsA K C H' h dx p q m ls := a.keep (Kp.of e) (fun _ z => e _ _ z) (fun _ z => e _ _ z) (fun _ z => e _ _ z) (Nat.le_refl _)
theorem HsA.ins {K : PySem.W.Frag} {C : Addr} {H : Hp} {h dx p q : Addr} {m : Nat} {ls : List (List Chc × Bool)} (a : HsA K C H h dx p q m ls) : ∃ fs, H h = some (.ins C dx fs) ∧ fs.lookup ("lamp" : Str) = none ∧ fs.lookup ("switch" : Str) = none ∧ fs.lookup ("light" : Str) = none := by
  obtain ⟨s, fl, lk, cm, b, q2, q3, ts, ps, h1, _⟩ := a.ex
  exact ⟨_, h1, rfl, rfl, rfl⟩
theorem HsA.lsts {K : PySem.W.Frag} {C : Addr} {H : Hp} {h dx p q : Addr} {m : Nat} {ls : List (List Chc × Bool)} (a : HsA K C H h dx p q m ls) : (∃ xs, H p = some (.lst xs)) ∧ ∃ xs, H q = some (.lst xs) := by
  obtain ⟨s, fl, lk, cm, b, q2, q3, ts, ps, _, h2, _, h4, _⟩ := a.ex
  exact ⟨⟨_, h2⟩, _, h4⟩
/-- all but the house, its past and what is ahead -/
def Kept (H H' : Hp) (h p q : Addr) : Prop := ∀ a o, H a = some o → a ≠ h → a ≠ p → a ≠ q → H' a = some o
/-- a house made -/
theorem HsA.made {K : PySem.W.Frag} {C : Addr} {H : Hp} {h dx s p q : Addr} (hh : H h = some (.ins C dx [("state", .ref s), ("past", .ref p), ("ahead", .ref q), ("trying", .bl false)])) (hp : H p = some (.lst [])) (hq : H q = some (.lst [])) (hn : p ≠ q) (f : FirstA K H s) : HsA K C H h dx p q 0 [] := by
  obtain ⟨fl, lk, cm, q1, q2, q3, h1, h2, h3, h4, h5, h6, h7⟩ := f.ex
  exact ⟨⟨s, fl, lk, cm, q1, q2, q3, [], [], hh, hp, Nat.le_refl _, hq, hn, ⟨st_of h1, h2, h3, h4⟩, h5, h6, h7, ⟨rfl, fun i k v z hz => by cases hz⟩, rfl⟩, (fun z hz => by cases hz), Nat.zero_le _⟩
/-- what a deed of the house leaves -/
theorem deed_kept {H0 H4 : Hp} {h p q t : Addr} {o1 o2 o3 o4 : HO} (e : Ex H0 H4) (ht : H4 t = none) : Kept H0 (upd (upd (upd (upd H4 t o1) p o2) q o3) h o4) h p q := fun a o ha h1 h2 h3 => by
  rw [upd_ne h1, upd_ne h3, upd_ne h2, upd_ne (ne_of_none (e _ _ ha) ht)]
  exact e _ _ ha
theorem Kept.kp {H H' : Hp} {h p q C dx : Addr} {fs : List (Str × V)} {ps qs : List V} (k : Kept H H' h p q) (hh : H h = some (.ins C dx fs)) (hp : H p = some (.lst ps)) (hq : H q = some (.lst qs)) : Kp H H' :=
  ⟨fun _ _ ha => k _ _ ha (ne_of ha hh (by intro z; cases z)) (ne_of ha hp (by intro z; cases z)) (ne_of ha hq (by intro z; cases z)), fun _ _ _ ha => k _ _ ha (ne_of ha hh (by intro z; cases z)) (ne_of ha hp (by intro z; cases z)) (ne_of ha hq (by intro z; cases z))⟩
theorem deed_kp {H4 : Hp} {h p q t C dx : Addr} {fs : List (Str × V)} {ps qs : List V} {o1 o2 o3 o4 : HO} (hh : H4 h = some (.ins C dx fs)) (hp : H4 p = some (.lst ps)) (hq : H4 q = some (.lst qs)) (ht : H4 t = none) : Kp H4 (upd (upd (upd (upd H4 t o1) p o2) q o3) h o4) := (deed_kept (Ex.refl H4) ht).kp hh hp hq
theorem tabs_kept {T : List (Addr × Str)} {H H' : Hp} {h p q C dx : Addr} {fs : List (Str × V)} {ps qs : List V} (t : LamX.Tabs T H) (k : Kept H H' h p q) (hh : H h = some (.ins C dx fs)) (hp : H p = some (.lst ps)) (hq : H q = some (.lst qs)) : LamX.Tabs T H' := fun x hx => by
  obtain ⟨us, h1, h2, h3⟩ := t x hx
  refine ⟨us, k _ _ h1 (ne_of h1 hh (by intro z; cases z)) (ne_of h1 hp (by intro z; cases z)) (ne_of h1 hq (by intro z; cases z)), h2, fun pos cv hc => ?_⟩
  obtain ⟨c, e1, e2⟩ := h3 pos cv hc
  exact ⟨c, e1, k _ _ e2 (ne_of e2 hh (by intro z; unfold LamX.CodeO at z; cases z)) (ne_of e2 hp (by intro z; unfold LamX.CodeO at z; cases z)) (ne_of e2 hq (by intro z; unfold LamX.CodeO at z; cases z))⟩
/-- what the table of doers says of a word -/
structure DoerA (K : PySem.W.Frag) (dF dD : Addr) (S : Addr → Option Sp) (wd fm : Str) (sp : Sp) : Prop where
  ex : ∃ (tk : Tok) (f : Addr), PySem.W.nsIn K dF wd = some (some (.str fm tk)) ∧ PySem.W.nsIn K dD wd = some (some (.ref f)) ∧ S f = some sp
def spLampH (K : PySem.W.Frag) (C : Addr) : Sp := fun vs H Q _ => ∃ (h lt dx p q : Addr) (m : Nat) (ls : List (List Chc × Bool)) (x y r g u : Int), vs = [.ref h, .int x, .int y, .ref lt] ∧ SqT K H lt [.int r, .int g, .int u] ∧ HsA K C H h dx p q m ls ∧ InFar [x, y] ∧ InLit 1000000 [r, g, u] ∧ ls.length < 12 ∧ m ≤ 500 ∧
  ∀ H', Kept H H' h p q → HsA K C H' h dx p q (m + 1) (ls ++ [([(x, y, (r, g, u))], true)]) → Q (.int ((ls.length : Int) + 1)) H'
theorem lamp_h {K : PySem.W.Frag} {C dF dD cP cL cF : Addr} {S : Addr → Option Sp} (D : DoerA K dF dD S "lamp" "nnnnn" (spDoLamp K cP cL cF)) (vs : List V) (H : Hp) (Q : VK) (E : XK) (hs : spLampH K C vs H Q E) : spLampM K C (spDo C (spApplied K dF dD S)) vs H Q E := by
  obtain ⟨h, lt, dx, p, q, m, ls, x, y, r, g, u, rfl, hlt, a, hF, hL, hl, hm, k⟩ := hs
  obtain ⟨tk, f, d1, d2, d3⟩ := D.ex
  obtain ⟨s, fl, lk, cm, b, q2, q3, ts, ps, h1, h2, h3, h4, h5, h6, h7, h8, h9, h10, h11⟩ := a.ex
  refine ⟨h, lt, dx, fldsH s p q, x, y, [.int r, .int g, .int u], rfl, hlt, (show 3 ≤ 100 by decide), h1, rfl, fun d hd => ?_⟩
  have xd := Ex.new (o := .tup [V.str "lamp", .int x, .int y, .int r, .int g, .int u]) hd
  refine ⟨h, d, dx, s, p, q, fldsH s p q, ps, [], rfl, xd _ _ h1, rfl, rfl, rfl, xd _ _ h2, xd _ _ h4, h5, by omega, (show 4 < 1000 by decide), fun Q' kk => ?_⟩
  refine ⟨s, d, f, "lamp", "nnnnn", tk, [.int x, .int y, .int r, .int g, .int u], _, rfl, st_of upd_same, d1, rfl, (show 5 ≤ 100 by decide), d2, d3, fun H2 e2 => ?_⟩
  have e02 := xd.trans e2
  have tl : ts.length = ls.length := h10.1
  refine ⟨s, fl, lk, cm, b, bareV b q2 q3, [], comV ((ls.length : Int) + 1), ts, (ls.length : Int) + 1, x, y, r, g, u, rfl, h6.ext e02, rfl, h7.ext e02, rfl, (show 3 ≤ 10000 by decide), by omega, (show 4 ≤ 10000 by decide), fun z => absurd hF z, fun _ z => absurd hL z, fun _ _ z => by omega, fun _ _ _ th H3 e3 hth r' s' fl' q' cm' H4 e4 hr' hSt hq' => ?_⟩
  have e04 := (e02.trans e3).trans e4
  refine kk r' (.ref s') _ H4 hr' (e04 _ _ h1) (e04 _ _ h2) (e04 _ _ h4) fun t ht => ?_
  have kp := deed_kp (h := h) (p := p) (q := q) (o1 := .tup [V.ref d, .ref s]) (o2 := .lst (ps ++ [.ref t])) (o3 := .lst []) (o4 := .ins C dx (putF "state" (.ref s') (fldsH s p q))) (e04 _ _ h1) (e04 _ _ h2) (e04 _ _ h4) ht
  have nph : p ≠ h := fun z => by
    rw [z, h1] at h2
    cases h2
  have nqh : q ≠ h := fun z => by
    rw [z, h1] at h4
    cases h4
  refine k _ (deed_kept e04 ht) ⟨⟨s', fl', lk, cm', q', q2, q3, _, ps ++ [.ref t], upd_same, ?_, ?_, ?_, h5, ?_, kp.fz hq', kp.fz (h8.ext e04), kp.fz (h9.ext e04), ?_, ?_⟩, fun z hz => ?_, ?_⟩
  · rw [upd_ne nph, upd_ne h5, upd_same]
  · rw [List.length_append]
    exact Nat.succ_le_succ h3
  · rw [upd_ne nqh, upd_same]
  · rw [List.length_append]
    exact kp.sta hSt
  · rw [← tl, h11.new]
    exact (kp.lamps (h10.ext e04)).snoc (hth.g.keep fun _ _ z => kp.tup (e4 _ _ z))
  · rw [← tl, h11.new]
    exact h11.snoc
  · rcases List.mem_append.mp hz with z1 | z1
    · exact a.one z z1
    · rw [List.mem_singleton.mp z1] <;> rfl
  · rw [List.length_append]
    exact Nat.le_trans (Nat.succ_le_succ (Nat.le_of_lt hl)) (by decide)
def spSwitchH (K : PySem.W.Frag) (C : Addr) : Sp := fun vs H Q _ => ∃ (h dx p q : Addr) (m i : Nat) (ls : List (List Chc × Bool)) (c : Chc) (on : Bool), vs = [.ref h, .int ((i : Int) + 1)] ∧ HsA K C H h dx p q m ls ∧ ls[i]? = some ([c], on) ∧ m ≤ 500 ∧ ∀ H', Kept H H' h p q → HsA K C H' h dx p q (m + 1) (ls.set i ([c], !on)) → Q .non H'
theorem switch_h {K : PySem.W.Frag} {C dF dD : Addr} {S : Addr → Option Sp} (D : DoerA K dF dD S "switch" "n" (spSwitch K)) (vs : List V) (H : Hp) (Q : VK) (E : XK) (hs : spSwitchH K C vs H Q E) : spSwitchM C (spDo C (spApplied K dF dD S)) vs H Q E := by
  obtain ⟨h, dx, p, q, m, i, ls, c, on, rfl, a, hi, hm, k⟩ := hs
  obtain ⟨tk, f, d1, d2, d3⟩ := D.ex
  obtain ⟨s, fl, lk, cm, b, q2, q3, ts, ps, h1, h2, h3, h4, h5, h6, h7, h8, h9, h10, h11⟩ := a.ex
  refine ⟨h, dx, fldsH s p q, (i : Int) + 1, rfl, h1, rfl, fun d hd => ?_⟩
  have xd := Ex.new (o := .tup [V.str "switch", .int ((i : Int) + 1)]) hd
  refine ⟨h, d, dx, s, p, q, fldsH s p q, ps, [], rfl, xd _ _ h1, rfl, rfl, rfl, xd _ _ h2, xd _ _ h4, h5, by omega, (show 4 < 1000 by decide), fun Q' kk => ?_⟩
  refine ⟨s, d, f, "switch", "n", tk, [.int ((i : Int) + 1)], _, rfl, st_of upd_same, d1, rfl, (show 1 ≤ 100 by decide), d2, d3, fun H2 e2 => ?_⟩
  have e02 := xd.trans e2
  have hil : i < ls.length := (List.getElem?_eq_some_iff.mp hi).1
  have hit : i < ts.length := by rw [h10.1]; exact hil
  have htk : ts[i]? = some (.inl ((i : Int) + 1), ts[i].2) := by rw [List.getElem?_eq_getElem hit, ← h11.at hit]
  obtain ⟨th, eth, lg⟩ := (h10.ext e02).2 i _ _ _ htk hi
  rw [eth] at htk
  have fw := a.few
  refine ⟨s, fl, lk, cm, b, th, bareV b q2 q3, [], comV ((ls.length : Int) + 1), ts, (i : Int) + 1, on, _, rfl, h6.ext e02, rfl, h7.ext e02, val_at h11.nodup htk, lg.a1, (show 3 ≤ 10000 by decide), by rw [h10.1]; omega, fun r' s' fl' q' th' H4 e4 hth hr' hSt hq' => ?_⟩
  have e04 := e02.trans e4
  refine kk r' (.ref s') _ H4 hr' (e04 _ _ h1) (e04 _ _ h2) (e04 _ _ h4) fun t ht => ?_
  have kp := deed_kp (h := h) (p := p) (q := q) (o1 := .tup [V.ref d, .ref s]) (o2 := .lst (ps ++ [.ref t])) (o3 := .lst []) (o4 := .ins C dx (putF "state" (.ref s') (fldsH s p q))) (e04 _ _ h1) (e04 _ _ h2) (e04 _ _ h4) ht
  have nph : p ≠ h := fun z => by
    rw [z, h1] at h2
    cases h2
  have nqh : q ≠ h := fun z => by
    rw [z, h1] at h4
    cases h4
  refine k _ (deed_kept e04 ht) ⟨⟨s', fl', lk, cm, q', q2, q3, _, ps ++ [.ref t], upd_same, ?_, ?_, ?_, h5, ?_, kp.fz hq', kp.fz (h8.ext e04), kp.fz (h9.ext e04), ?_, ?_⟩, fun z hz => ?_, ?_⟩
  · rw [upd_ne nph, upd_ne h5, upd_same]
  · rw [List.length_append]
    exact Nat.succ_le_succ h3
  · rw [upd_ne nqh, upd_same]
  · rw [List.length_set]
    exact kp.sta hSt
  · rw [putK_at h11.nodup htk]
    exact (kp.lamps (h10.ext e04)).set (hth.g.keep fun _ _ z => kp.tup z)
  · rw [putK_at h11.nodup htk]
    exact h11.set hit
  · rcases List.mem_or_eq_of_mem_set hz with z1 | z1
    · exact a.one z z1
    · rw [z1] <;> rfl
  · rw [List.length_set]
    exact fw
/-! ### its light -/
def litOn (ls : List (List Chc × Bool)) : List Tri := (ls.filter (·.2)).map fun z => (z.1.getD 0 (0, 0, (0, 0, 0))).2.2
def lit0 (ls : List (List Chc × Bool)) : List Tri := ls.map fun z => if z.2 = true then (z.1.getD 0 (0, 0, (0, 0, 0))).2.2 else (0, 0, 0)
theorem sum_lit (f : Tri → Int) (f0 : f (0, 0, 0) = 0) : ∀ ls : List (List Chc × Bool), ((lit0 ls).map f).sum = ((litOn ls).map f).sum
  | [] => rfl
  | z :: r => by
    have ih := sum_lit f f0 r
    obtain ⟨cs, on⟩ := z
    cases on with
    | true =>
      show f _ + ((lit0 r).map f).sum = f _ + ((litOn r).map f).sum
      rw [ih] <;> rfl
    | false =>
      show f (0, 0, 0) + ((lit0 r).map f).sum = ((litOn r).map f).sum
      rw [ih, f0, Int.zero_add]
theorem sum3_lit (ls : List (List Chc × Bool)) : sum3 (lit0 ls) = sum3 (litOn ls) := by
  unfold sum3
  rw [sum_lit _ rfl, sum_lit _ rfl, sum_lit _ rfl]
theorem nOn_one {ls : List (List Chc × Bool)} (h : ∀ z ∈ ls, z.1.length = 1) : cnts (nOn ls) = [] := by
  unfold cnts nOn
  rw [List.map_eq_nil_iff, List.filter_eq_nil_iff]
  intro y hy
  obtain ⟨z, hz, rfl⟩ := List.mem_map.mp hy
  simp [h z hz]
theorem litBy_one {ls : List (List Chc × Bool)} (h : ∀ z ∈ ls, z.1.length = 1) : litBy (fun c => c.2.2) ls [] = lit0 ls := by
  unfold litBy lit0
  refine List.ext_getElem (by simp) fun i h1 h2 => ?_
  have hi : i < ls.length := by simpa using h1
  rw [List.getElem_map, List.getElem_map, List.getElem_range]
  have hz := h ls[i] (List.getElem_mem hi)
  have hd : ls.getD i ([], false) = ls[i] := by rw [List.getD_eq_getElem?_getD, List.getElem?_eq_getElem hi] <;> rfl
  have hp : pval (nOn ls) [] i = 0 := by
    unfold pval
    rw [List.getD_eq_getElem?_getD, nOn_at (List.getElem?_eq_getElem hi)]
    dsimp only [Option.getD_some]
    rw [if_neg (by omega)]
  rw [hd, hp]
  generalize ls[i] = z at hz
  obtain ⟨cs, on⟩ := z
  match cs, hz with
  | [c], _ => rfl
theorem sum3_lit_by {ls : List (List Chc × Bool)} (h : ∀ z ∈ ls, z.1.length = 1) : sum3 (litBy (fun c => c.2.2) ls []) = sum3 (litOn ls) := by rw [litBy_one h, sum3_lit]
def spLightH (K : PySem.W.Frag) (C cP cB : Addr) : Sp := fun vs H Q E => ∃ (h dx p q : Addr) (m : Nat) (ls : List (List Chc × Bool)) (x y : Int) (v : V), vs = [.ref h, .int x, .int y, v] ∧ HsA K C H h dx p q m ls ∧ (¬ InFar [x, y] → Flies cP "badplace" H E) ∧
  (InFar [x, y] → (v = .non ∧ RetU (tri (sum3 (litOn ls))) H Q) ∨ ∃ (sb : Addr) (r : List Int), v = .ref sb ∧ SqT K H sb (iv r) ∧ (r ≠ [] → Flies cB "badsetting" H E) ∧ (r = [] → RetU (tri (sum3 (litOn ls))) H Q))
theorem light_h {K : PySem.W.Frag} {C cP cU cB : Addr} (vs : List V) (H : Hp) (Q : VK) (E : XK) (hs : spLightH K C cP cB vs H Q E) : spLightM K C cP cU cB spFigs0 (spBrought0 K) vs H Q E := by
  obtain ⟨h, dx, p, q, m, ls, x, y, v, rfl, a, kP, k⟩ := hs
  obtain ⟨s, fl, lk, cm, b, q2, q3, ts, ps, h1, h2, h3, h4, h5, h6, h7, h8, h9, h10, h11⟩ := a.ex
  have hn := nOn_one a.one
  refine ⟨h, dx, s, fl, lk, cm, b, fldsH s p q, bareV b q2 q3, [], comV ((ls.length : Int) + 1), ts, ls, x, y, v, fun c => c.2.2, rfl, ⟨h1, rfl, h6, rfl, h7, h10, h11.nodup, by rw [h10.1]; exact a.few, fun z hz => by rw [a.one z hz]; decide, fun z hz => by rw [a.one z hz] <;> exact Nat.le_refl _, by rw [hn]; exact ⟨by decide, fun c hc => by cases hc⟩⟩, kP, fun hF => ⟨?_, ?_⟩⟩
  · intro H0 t e0 ht Q' kk
    refine ⟨fl, q2, q3, bareV b q2 q3, rfl, h6.f.ext e0, rfl, rfl, h8.ext e0, h9.ext e0, fun g H1 hg e1 hl => kk g H1 e1 fun H2 e2 c q' hq' Q2 k2 => ?_⟩
    exact ⟨g, q', t, c.1, c.2.1, c.2.2.1, c.2.2.2.1, c.2.2.2.2, rfl, sq_of (e2 _ _ hl), hq', k2⟩
  · rw [hn, sum3_lit_by a.one]
    rcases k hF with ⟨rfl, k1⟩ | ⟨sb, r, rfl, hsb, kE, k1⟩
    · exact .inl ⟨rfl, fun z => absurd rfl z, fun _ => k1⟩
    · refine .inr ⟨sb, r, rfl, hsb, fun z => kE fun e => z (by rw [e]; exact good_nil), fun g => ?_⟩
      have e : r = [] := List.eq_nil_of_length_eq_zero g.1
      subst e
      rw [sum3_lit_by a.one]
      exact k1 rfl
end Hs
namespace Hs
open PySem PySem.Spec PyProof.Rows L2 Evl LamX NdefX
/-- a lambda without parameters, by its body's reading -/
theorem lok_gen {P : Program} {w : World} {K : PySem.W.Frag} {mg : Str → Option Value} {base : Heap} {F : LF} {k : Nat} {fr : List Str} {t : XK → TE} (hp : F.params = ⟨[], [], none, [], [], none, []⟩) (S : NScope fr [] fr F.scope)
    (hb : ∀ (A : Around) (outer : List Env) (s : Shared) (H : Hp) (f : Addr) (E : XK), Room k (A.deeper (envF F.nf f s.heap.objs.size)) → PE (ncx (L2.CX P w) P w K mg base fr F.nf f A outer s H E) F.body (t E)) :
    LOk P w K mg base (L2.CX P w) (k + 1) F [] fr (fun ws vs H Q E => vs = [] ∧ t E (startF fr [] ws) H Q) := by
  refine lok_of S (fun pm ctv us hl => ?_) (fun ws vs H Q E h => by rw [h.1] <;> rfl) (fun A outer s H f vs ws Q E hr hl h => ?_)
  · cases us with
    | nil =>
      rw [hp]
      rfl
    | cons u r => cases hl
  · obtain ⟨rfl, hs⟩ := h
    exact ⟨_, hb A outer s H f E hr, hs⟩
end Hs
namespace Hs
open PySem PySem.Spec PyProof.Rows L2 Evl
def lamQ : Str := ("law" : Str) ++ ".<locals>." ++ "<lambda>"
def spLaw (K : PySem.W.Frag) (T : List (Addr × Str)) : Sp := fun vs H Q _ => ∃ (a : Addr) (ns : List Int), vs = [.ref a] ∧ SqL K H a (ns.map V.int) ∧ ns.length ≤ 63 ∧ LamX.Tabs T H ∧ ∀ H', Q (.bl true) H'
def freeB (sc : Scope) (ns : List (Str × NameKind)) : Bool := ns.all fun y => !decide (y.2 = .free) || decide (sc.names.lookup y.1 = some .cell) || decide (sc.names.lookup y.1 = some .free)
theorem free_by {sc : Scope} {ns : List (Str × NameKind)} (h : freeB sc ns = true) : ∀ y ∈ ns, y.2 = .free → sc.names.lookup y.1 = some .cell ∨ sc.names.lookup y.1 = some .free := by
  unfold freeB at h
  simp only [Bool.or_eq_true, Bool.not_eq_true', decide_eq_true_eq, decide_eq_false_iff_not, List.all_eq_true] at h
  intro y hy e
  rcases h y hy with (z | z) | z
  · exact absurd e z
  · exact .inl z
  · exact .inr z
theorem caps_ns {X : Cx} {ns : List (Str × NameKind)} {fr : List Str} {js : List Nat} (ok : X.Ok) (hfree : ∀ y ∈ ns, y.2 = .free → X.env.scope.names.lookup y.1 = some .cell ∨ X.env.scope.names.lookup y.1 = some .free) (hfr : ∀ y ∈ fr, (y, NameKind.free) ∈ ns) (hjs : js.map (fun j => X.N[j]?) = fr.map some) : NdefX.Caps X (cloFrom X.env.cells ns []) fr js :=
  NdefX.Caps.made (scope := { kind := .function, names := ns, isGenerator := false, isCoroutine := false }) ok hfree hfr hjs
section
variable {K : PySem.W.Frag} {σ : L2.St} {H : Hp}
theorem sm_flat {d : Nat} {v : V} (h : flatV v = true) : Sm K H (d + 1) v v := .inl ⟨rfl, h⟩
theorem iv_flat {cs : List Int} : (iv cs).all flatV = true := by
  rw [List.all_map]
  exact List.all_eq_true.mpr fun x _ => rfl
theorem sm_row {d : Nat} {xs : List V} (hf : xs.all flatV = true) (i : Nat) (x y : V) (hx : xs[i]? = some x) (hy : xs[i]? = some y) : Sm K H (d + 1) x y := by
  rw [hx] at hy
  cases hy
  exact sm_flat (List.all_eq_true.mp hf x (List.mem_of_getElem? hx))
theorem sm_tupF {d : Nat} {p q : Addr} {xs : List V} (h1 : SqT K H p xs) (h2 : SqT K H q xs) (hf : xs.all flatV = true) (hz : xs.length ≤ 1000) : Sm K H (d + 2) (.ref p) (.ref q) := .inr ⟨p, q, xs, xs, rfl, rfl, .inr ⟨h1, h2⟩, rfl, hz, sm_row hf⟩
theorem s_forRD {D : Ends} {tu : TS} {ta : TA} {j : Nat} (M : Int → Hp → Prop) (h : ∀ k : List V → Hp → Prop, (∀ n H1, M n H1 → k [.int n] H1) → ta σ H k) (Pv : Int → Nat → L2.St → Hp → Prop) (hM : ∀ n H1, M n H1 → (0 ≤ n ∧ n ≤ 100000) ∧ Pv n 0 σ H1)
    (hs : ∀ n (i : Nat) σ' H', (i : Int) < n → Pv n i σ' H' → tu { D with nx := Pv n (i + 1), ct := Pv n (i + 1), bk := D.nx } (σ'.set j (some (.int (i : Int)))) H') (hd : ∀ n σ' H', Pv n n.toNat σ' H' → D.nx σ' H') : tFor (iRng1 ta) (gName j) tu D σ H :=
  h _ fun n H1 m => ⟨n, rfl, by have := (hM n H1 m).1; omega, by have := (hM n H1 m).1; omega, for_range (lo := 0) (n := n.toNat) (Pv n) (hM n H1 m).2 (fun i σ' H' hi p => by
    have e0 : (0 : Int) + (i : Int) = (i : Int) := Int.zero_add _
    show tu { D with nx := Pv n (i + 1), ct := Pv n (i + 1), bk := D.nx } (σ'.set j (some (.int ((0 : Int) + (i : Int))))) H'
    rw [e0]
    exact hs n i σ' H' (by omega) p) (hd n)⟩
theorem et_sameI {t1 t2 : TE} {x : Int} {E : XK} {d : Nat} (h1 : Ev t1 σ H (.int x)) (h2 : Ev t2 σ H (.int x)) : EvT (tNot (tB (tCall (spSame K (d + 1)) [] E (tCons t1 (tCons t2 tNil))))) σ H false := fun H0 e0 Q q =>
  h1 H0 e0 _ fun H1 e1 => h2 H1 (e0.trans e1) _ fun H2 e2 => ⟨_, _, rfl, sm_flat rfl, fun H3 e3 => ⟨true, rfl, q H3 ((e1.trans e2).trans e3)⟩⟩
end
/-- a new object of an own class -/
structure MkX (P : Program) (w : World) (K : PySem.W.Frag) (mg : Str → Option Value) (base : Heap) (k : Nat) (x : Str) (C : Addr) (ps : List Str) (sp : Sp) : Prop where
  ex : ∃ (f : Addr) (fd : FuncData), Mk K C f ∧ FnOk P w K mg base CX0 k f fd ps sp ∧ mg x = some (.ref C) ∧ Binds K fd ps []
theorem pe_mkX {X : Cx} {k j : Nat} {x : Str} {C : Addr} {ps : List Str} {sp : Sp} {p pos : Pos} (M : MkX X.prog X.w X.K X.mg X.base k x C ps sp) (hr : Room j X.A) (hk : k + 1 ≤ j) (hg : Gl X x) (hdb : (x == ("__debug__" : Str)) = false := by decide) : PE X (.Call (.Name x p) [] [] pos) (tMake C sp [] E0 tNil) := by
  obtain ⟨f, fd, mk, F, m, b⟩ := M.ex
  exact pe_make0 mk F (hr.mono hk) hg m b .nil pass0 hdb
/-- an own method with keywords -/
structure MetN (P : Program) (w : World) (K : PySem.W.Frag) (mg : Str → Option Value) (base : Heap) (k : Nat) (C : Addr) (m : Str) (ps : List Str) (n : Nat) (ks : List Str) (sp : Sp) : Prop where
  c : Cls K C
  ex : ∃ (f : Addr) (fd : FuncData), FnOk P w K mg base (L2.CX P w) k f fd ps sp ∧ Meth K C m f ∧ KBn K fd ps n ks (fun us ws => us ++ ws) (fun vs zs => vs ++ zs)
theorem pe_metN {X : Cx} {k j n : Nat} {C : Addr} {m : Str} {ps ks : List Str} {sp : Sp} {E : XK} {pos apos : Pos} {e o : Expr} {es : List Expr} {kws : List Keyword} {ta : TE} {t tk : TA} {pl : Sem Bool} (M : MetN X.prog X.w X.K X.mg X.base k C m ps n ks sp) (hr : Room j X.A) (hk : k ≤ j) (hx : Passes (L2.CX X.prog X.w) X E) (he : PE X o ta) (ha : PA X (e :: es) t) (hkw : PK X kws tk)
    (hall : (backToKw pos (keywordEach kws X.env)).all (·.1.isSome) = true := by rfl) (hks : (backToKw pos (keywordEach kws X.env)).filterMap (·.1) = ks := by rfl) (hst : starEach (e :: es) X.env = (false, eval e X.env) :: starEach es X.env := by rfl) (hpl : ((backTo pos (starEach (e :: es) X.env)).any (·.1) || (backToKw pos (keywordEach kws X.env)).any (·.1.isNone)) = false := by rfl)
    (ht : eval (.Call (.Attribute o m apos) (e :: es) kws pos) X.env = (do let ov ← eval o X.env; standAt apos.atName; let (f, first) ← holding [ov] (getMethod ov m pl); callWith pos f first (backTo pos (starEach (e :: es) X.env)) (backToKw pos (keywordEach kws X.env))) := by rfl) :
    PE X (.Call (.Attribute o m apos) (e :: es) kws pos) (tMethN C m n ks.length sp (fun vs zs => vs ++ zs) E ta t tk) := by
  obtain ⟨f, fd, F, hm, hb⟩ := M.ex
  exact pe_methN he M.c hm F (hr.mono hk) hb hx ha hkw hall hks hst hpl ht
/-! ### what stands while the law runs -/
structure S09 (K : PySem.W.Frag) (C : Addr) (T : List (Addr × Str)) (ns : List Int) (b l g : Addr) (gw gx gy : Int) (h dx p q lt : Addr) (n m : Nat) (ls : List (List Chc × Bool)) (ys : List Tri) (H : Hp) : Prop where
  bag : BagAt H b l ns n
  tabs : LamX.Tabs T H
  hs : HsA K C H h dx p q m ls
  grid : H g = some (.tup [.int gw, .int gx, .int gy])
  G : Grid gw gx gy
  lit : ∃ ps : List Addr, H lt = some (.lst (ps.map V.ref)) ∧ Lights K H ps ys
  nb : b ≠ p ∧ b ≠ q
  nl : l ≠ p ∧ l ≠ q
  nt : lt ≠ b ∧ lt ≠ l ∧ lt ≠ p ∧ lt ≠ q
section
variable {K : PySem.W.Frag} {C : Addr} {T : List (Addr × Str)} {ns : List Int} {b l g : Addr} {gw gx gy : Int} {h dx p q lt : Addr} {n n' m m' : Nat} {ls ls' : List (List Chc × Bool)} {ys : List Tri} {H H' : Hp}
theorem Lights.kp {ps : List Addr} {xs : List Tri} (h : Lights K H ps xs) (e : Kp H H') : Lights K H' ps xs := ⟨h.1, fun i p x hp hx => e.sqt (h.2 i p x hp hx)⟩
theorem S09.ext (s : S09 K C T ns b l g gw gx gy h dx p q lt n m ls ys H) (e : Ex H H') (hn : n ≤ n') : S09 K C T ns b l g gw gx gy h dx p q lt n' m ls ys H' := by
  obtain ⟨ps, h1, h2⟩ := s.lit
  exact ⟨s.bag.ext e hn, s.tabs.ext e, s.hs.ext e, e _ _ s.grid, s.G, ⟨ps, e _ _ h1, h2.ext e⟩, s.nb, s.nl, s.nt⟩
theorem S09.wk (s : S09 K C T ns b l g gw gx gy h dx p q lt n m ls ys H) (hn : n ≤ n') (hm : m ≤ m') : S09 K C T ns b l g gw gx gy h dx p q lt n' m' ls ys H := ⟨s.bag.ext (Ex.refl _) hn, s.tabs, s.hs.keep (Kp.of (Ex.refl _)) (fun _ z => z) (fun _ z => z) (fun _ z => z) hm, s.grid, s.G, s.lit, s.nb, s.nl, s.nt⟩
theorem S09.but (s : S09 K C T ns b l g gw gx gy h dx p q lt n m ls ys H) (B : BagAt H' b l ns n') (k : But H H' b) : S09 K C T ns b l g gw gx gy h dx p q lt n' m ls ys H' := by
  obtain ⟨xb, hb⟩ := bag_lst s.bag
  obtain ⟨ps, h1, h2⟩ := s.lit
  obtain ⟨fs, hi, _⟩ := s.hs.ins
  have kp := Kp.but hb k
  exact ⟨B, tabs_but s.tabs hb k, s.hs.keep kp (fun o z => k _ _ z (ne_of hi hb (by intro z; cases z))) (fun o z => k _ _ z (Ne.symm s.nb.1)) (fun o z => k _ _ z (Ne.symm s.nb.2)) (Nat.le_refl _), kp.tup s.grid, s.G, ⟨ps, k _ _ h1 s.nt.1, h2.kp kp⟩, s.nb, s.nl, s.nt⟩
theorem S09.extN (s : S09 K C T ns b l g gw gx gy h dx p q lt n m ls ys H) (e : LamX.ExtN H H') (t : LamX.Tabs T H') : S09 K C T ns b l g gw gx gy h dx p q lt n m ls ys H' := by
  obtain ⟨ps, h1, h2⟩ := s.lit
  obtain ⟨fs, hi, _⟩ := s.hs.ins
  obtain ⟨⟨xp, hp⟩, xq, hq⟩ := s.hs.lsts
  have kp := Kp.ofN e
  have em : ∀ {a : Addr} {u : HO}, H a = some u → (∀ t, u ≠ .tbl t) → ∀ o, H a = some o → H' a = some o := fun h1 h2 o z => by
    cases h1.symm.trans z
    exact e _ _ h1 h2
  exact ⟨bag_extN s.bag e, t, s.hs.keep kp (em hi (fun _ z => by cases z)) (em hp (fun _ z => by cases z)) (em hq (fun _ z => by cases z)) (Nat.le_refl _), kp.tup s.grid, s.G, ⟨ps, e _ _ h1 (fun _ z => by cases z), h2.kp kp⟩, s.nb, s.nl, s.nt⟩
theorem S09.kept (s : S09 K C T ns b l g gw gx gy h dx p q lt n m ls ys H) (k : Kept H H' h p q) (a : HsA K C H' h dx p q m' ls') : S09 K C T ns b l g gw gx gy h dx p q lt n m' ls' ys H' := by
  obtain ⟨ps, h1, h2⟩ := s.lit
  obtain ⟨fs, hi, _⟩ := s.hs.ins
  obtain ⟨⟨xp, hp⟩, xq, hq⟩ := s.hs.lsts
  have kp := k.kp hi hp hq
  obtain ⟨⟨i, z, sa, c, q1, q2, q3, q4, q5⟩, q6, q7⟩ := s.bag
  exact ⟨⟨⟨i, z, sa, c, k _ _ q1 (ne_of q1 hi (by intro z; cases z)) s.nb.1 s.nb.2, q2, q3, q4, q5⟩, k _ _ q6 (ne_of q6 hi (by intro z; cases z)) s.nl.1 s.nl.2, q7⟩, tabs_kept s.tabs k hi hp hq, a, kp.tup s.grid, s.G, ⟨ps, k _ _ h1 (ne_of h1 hi (by intro z; cases z)) s.nt.2.2.1 s.nt.2.2.2, h2.kp kp⟩, s.nb, s.nl, s.nt⟩
/-- what stands apart from a -/
theorem S09.upd {a : Addr} {xs : List V} {o : HO} (s : S09 K C T ns b l g gw gx gy h dx p q lt n m ls ys H) (ha : H a = some (.lst xs)) (h1 : a ≠ b) (h2 : a ≠ l) (h3 : a ≠ lt) (h4 : a ≠ p) (h5 : a ≠ q) : S09 K C T ns b l g gw gx gy h dx p q lt n m ls ys (L2.upd H a o) := by
  obtain ⟨ps, k1, k2⟩ := s.lit
  obtain ⟨fs, hi, _⟩ := s.hs.ins
  have kp := Kp.upd (o := o) ha
  exact ⟨bag_upd s.bag (Ne.symm h1) (Ne.symm h2), tabs_upd s.tabs ha, s.hs.keep kp (fun o z => by rw [upd_ne (ne_of hi ha (by intro z; cases z))]; exact z) (fun o z => by rw [upd_ne (Ne.symm h4)]; exact z) (fun o z => by rw [upd_ne (Ne.symm h5)]; exact z) (Nat.le_refl _), kp.tup s.grid, s.G, ⟨ps, by rw [upd_ne (Ne.symm h3)]; exact k1, k2.kp kp⟩, s.nb, s.nl, s.nt⟩
theorem S09.fresh (s : S09 K C T ns b l g gw gx gy h dx p q lt n m ls ys H) {a : Addr} (ha : H a = none) : a ≠ b ∧ a ≠ l ∧ a ≠ lt ∧ a ≠ p ∧ a ≠ q := by
  obtain ⟨ps, k1, k2⟩ := s.lit
  obtain ⟨⟨xp, hp⟩, xq, hq⟩ := s.hs.lsts
  exact ⟨bag_ne s.bag ha, Ne.symm (ne_of_none s.bag.ls ha), Ne.symm (ne_of_none k1 ha), Ne.symm (ne_of_none hp ha), Ne.symm (ne_of_none hq ha)⟩
/-- one more light -/
theorem S09.more {ps : List Addr} {t : Addr} {y : Tri} (s : S09 K C T ns b l g gw gx gy h dx p q lt n m ls ys H) (h1 : H lt = some (.lst (ps.map V.ref))) (h2 : Lights K H ps ys) (ht : SqT K H t (tri y)) : S09 K C T ns b l g gw gx gy h dx p q lt n m ls (ys ++ [y]) (L2.upd H lt (.lst (ps.map V.ref ++ [.ref t]))) := by
  obtain ⟨fs, hi, _⟩ := s.hs.ins
  have kp := Kp.upd (o := .lst (ps.map V.ref ++ [.ref t])) h1
  exact ⟨bag_upd s.bag (Ne.symm s.nt.1) (Ne.symm s.nt.2.1), tabs_upd s.tabs h1, s.hs.keep kp (fun o z => by rw [upd_ne (ne_of hi h1 (by intro z; cases z))]; exact z) (fun o z => by rw [upd_ne (Ne.symm s.nt.2.2.1)]; exact z) (fun o z => by rw [upd_ne (Ne.symm s.nt.2.2.2)]; exact z) (Nat.le_refl _), kp.tup s.grid, s.G, ⟨ps ++ [t], by rw [upd_same, List.map_append] <;> rfl, (h2.kp kp).snoc (kp.sqt ht)⟩, s.nb, s.nl, s.nt⟩
theorem litOn_snoc {c : Chc} {on : Bool} : litOn (ls ++ [([c], on)]) = litOn ls ++ if on = true then [c.2.2] else [] := by
  unfold litOn
  rw [List.filter_append, List.map_append]
  cases on <;> rfl
theorem set_last {z z' : List Chc × Bool} : (ls ++ [z]).set ls.length z' = ls ++ [z'] := by simp
theorem InFar.near {x y : Int} (hx : x.natAbs ≤ 1000000) (hy : y.natAbs ≤ 1000000) : InFar [x, y] := fun n hn => by
  simp only [List.mem_cons, List.not_mem_nil, or_false] at hn
  unfold absI
  rcases hn with rfl | rfl <;> split <;> omega
theorem not_far1 {x y : Int} (hx : 1000000 < x.natAbs) : ¬ InFar [x, y] := fun g => by
  have := g x (by simp)
  unfold absI at this
  split at this <;> omega
theorem not_far2 {x y : Int} (hx : 1000000 < y.natAbs) : ¬ InFar [x, y] := fun g => by
  have := g y (by simp)
  unfold absI at this
  split at this <;> omega
theorem sm_tri {d : Nat} {t1 t2 : Addr} {x : Tri} (h1 : SqT K H t1 (tri x)) (h2 : SqT K H t2 (tri x)) : Sm K H (d + 2) (.ref t1) (.ref t2) := sm_tupF h1 h2 rfl (by show 3 ≤ 1000; decide)
end
end Hs
namespace Hs
open PySem PySem.Spec PyProof.Rows L2 Evl
theorem litOn_len (ls : List (List Chc × Bool)) : (litOn ls).length ≤ ls.length := by
  unfold litOn
  rw [List.length_map]
  exact List.length_filter_le ..
theorem lit_ok {r g u : Int} (h : triB (r, g, u)) : InLit 1000000 [r, g, u] := fun n hn => by
  simp only [List.mem_cons, List.not_mem_nil, or_false] at hn
  rcases hn with rfl | rfl | rfl
  · exact h.1
  · exact h.2.1
  · exact h.2.2
section
variable {P : Program} {w : World} {K : PySem.W.Frag} {mg : Str → Option Value} {base : Heap} {C W c pt cP cBs : Addr} {cN cL cK cB cS cM cC : Addr}
abbrev sLaw : Stmt := top 115
theorem scLaw : FnScope ["_law_script", "_law_bag_here", "_law_grid_here", "_law_house", "_law_lit", "_law_k", "_law_spot_here", "_law_tint_here", "_law_number", "_law_due", "_law_step", "_law_a", "_law_b", "_law_found", "_law_odd", "_law_acts"] ["_law_script"] (defScope sLaw) := ⟨rfl, rfl, rfl, by decide +kernel, rfl, by decide +kernel, by decide +kernel⟩
theorem law_body {A : Around} {outer : List Env} {s : Shared} {H : Hp} {E : XK} {f : Addr} (hr : Room 10 (A.deeper (envOfC "law" (defScope sLaw) s.heap.objs.size f (.ref c))))
    (O__law_bag : Own P w K mg base 1 "_law_bag" ["_law_script"] (spBag K)) (O__law_pull : Own P w K mg base 1 "_law_pull" ["_law_bag_here", "_law_many"] spPull) (O__law_same : Own P w K mg base 4 "_law_same" ["_law_got", "_law_due"] (spSame K 4)) (O__law_far : Own P w K mg base 2 "_law_far" ["_law_bag_here"] spFar) (O__law_sum : Own P w K mg base 1 "_law_sum" ["_law_some"] (spSum K)) (O__law_grid : Own P w K mg base 2 "_law_grid" ["_law_bag_here"] spGrid) (O__law_spot : Own P w K mg base 2 "_law_spot" ["_law_bag_here", "_law_grid_here"] spSpot) (O__law_tint : Own P w K mg base 2 "_law_tint" ["_law_bag_here"] spTint)
    (M_House : MkX P w K mg base 3 "House" C ["self"] (spInit K C)) (M_lamp : MetX P w K mg base 8 C "lamp" ["self", "across", "up", "light"] [.ref W] (spLampH K C)) (M_lampN : MetN P w K mg base 8 C "lamp" ["self", "across", "up", "light"] 3 ["light"] (spLampH K C)) (M_switch : MetX P w K mg base 8 C "switch" ["self", "number"] [] (spSwitchH K C))
    (ML : ∀ base', (∀ b o, base.get? b = some o → base'.get? b = some o) → MetX P w K mg base' 7 C "light" ["self", "across", "up", "setting"] [.non] (spLightH K C cP cBs)) (MN : ∀ base', (∀ b o, base.get? b = some o → base'.get? b = some o) → MetN P w K mg base' 7 C "light" ["self", "across", "up", "setting"] 3 ["setting"] (spLightH K C cP cBs))
    (O__law_all_tried : ∀ base', (∀ b o, base.get? b = some o → base'.get? b = some o) → Own P w K mg base' 10 "_law_all_tried" ["_law_acts"] (spAll P w K mg base' 8 lamQ cN cL cK cB cS cM cC))
    (TB : LamX.TabB base mg c pt) (g_range : mg "range" = none) (g_WHITE : mg "WHITE" = some (.ref W) ∧ RelV (.ref W) (.ref W)) (hW : ∀ H, SqT K H W [.int 9, .int 9, .int 9]) (wP : Word K cP cN cL cK cB cS cM cC) (wB : Word K cBs cN cL cK cB cS cM cC) {vs : List V} {Q : VK} (h : spLaw K [(pt, lamQ)] vs H Q E) :
    ∃ t, PSs (cxOf CX0 P w K mg base ["_law_script", "_law_bag_here", "_law_grid_here", "_law_house", "_law_lit", "_law_k", "_law_spot_here", "_law_tint_here", "_law_number", "_law_due", "_law_step", "_law_a", "_law_b", "_law_found", "_law_odd", "_law_acts"] "law" (defScope sLaw) f (.ref c) A outer s H E) (defBody sLaw) t ∧ t { nx := fun _ H' => Q .non H', rt := Q } (L2.start ["_law_script", "_law_bag_here", "_law_grid_here", "_law_house", "_law_lit", "_law_k", "_law_spot_here", "_law_tint_here", "_law_number", "_law_due", "_law_step", "_law_a", "_law_b", "_law_found", "_law_odd", "_law_acts"] vs) H := by
  have nd := scLaw.nd
  have M_light := ML base fun _ _ z => z
  have M_lightN := MN base fun _ _ z => z
  refine ⟨_, PSs.nox (pss_cons (ps_set (i := 1) nd rfl (.inl rfl) (Hs.pe_own O__law_bag hr (by first | decide | omega) (by rfl) (pa_cons (pv 0) pa_nil)))
  (pss_cons (ps_set (i := 2) nd rfl (.inl rfl) (Hs.pe_own O__law_grid hr (by first | decide | omega) (by rfl) (pa_cons (pv 1) pa_nil)))
  (pss_cons (ps_set (i := 3) nd rfl (.inr rfl) (Hs.pe_mkX M_House hr (by decide) (by rfl)))
  (pss_cons (ps_set (i := 4) nd rfl (.inl rfl) (pe_lst pa_nil))
  (Evl.pss_cut (ps_for PassesOwn.never rfl (pi_range1 (by rfl) g_range (pa_cons (pe_op op_add pe_int (Hs.pe_own O__law_pull hr (by first | decide | omega) (by rfl) (pa_cons (pv 1) (pa_cons pe_int pa_nil)))) pa_nil)) (pg_name (i := 5) nd rfl (.inl rfl)) (pss_cons (ps_par (i := 6) (j := 7) (by rfl) nd rfl rfl (by decide) rfl rfl (pa_cons (Hs.pe_own O__law_spot hr (by first | decide | omega) (by rfl) (pa_cons (pv 1) (pa_cons (pv 2) pa_nil))) (pa_cons (Hs.pe_own O__law_tint hr (by first | decide | omega) (by rfl) (pa_cons (pv 1) pa_nil)) pa_nil)) (by rfl))
  (Evl.pss_cut (ps_if (pt_cmpR op_eq (Hs.pe_own O__law_pull hr (by first | decide | omega) (by rfl) (pa_cons (pv 1) (pa_cons pe_int pa_nil))) pe_int (nomark _)) (pss_one (ps_par (i := 8) (j := 7) (by rfl) nd rfl rfl (by decide) rfl rfl (pa_cons (Hs.pe_metX (E := E0) M_lamp hr (by decide) passL (pv 3) (pa_cons (pe_ix (r := rIxT K) ix_tup (pv 6) pe_int (fun _ _ => rfl)) (pa_cons (pe_ix (r := rIxT K) ix_tup (pv 6) pe_int (fun _ _ => rfl)) pa_nil))) (pa_cons (pe_tup (pa_cons pe_int (pa_cons pe_int (pa_cons pe_int pa_nil)))) pa_nil)) (by rfl))) (pss_one (ps_set (i := 8) nd rfl (.inl rfl) (Hs.pe_metN (E := E0) M_lampN hr (by decide) passL (pv 3) (pa_cons (pe_ix (r := rIxT K) ix_tup (pv 6) pe_int (fun _ _ => rfl)) (pa_cons (pe_ix (r := rIxT K) ix_tup (pv 6) pe_int (fun _ _ => rfl)) pa_nil)) (pk_cons (pv 7) pk_nil)))))
  (pss_cons (ps_if (pt_not (pt_val (Hs.pe_own O__law_same hr (by first | decide | omega) (by rfl) (pa_cons (pv 8) (pa_cons (pe_op op_add (pv 5) pe_int) pa_nil))))) (pss_one (ps_ret pe_bl)) pss_nil)
  (pss_one (ps_if (pt_cmpR op_eq (Hs.pe_own O__law_pull hr (by first | decide | omega) (by rfl) (pa_cons (pv 1) (pa_cons pe_int pa_nil))) pe_int (nomark _)) (pss_one (ps_expr (Hs.pe_metX (E := E0) M_switch hr (by decide) passL (pv 3) (pa_cons (pv 8) pa_nil)))) (pss_one (ps_expr (pe_bm PySem.F.plainAttrs_list PySem.F.slot_list_append PySem.F.type_list_append mt_append (pv 4) (pa_cons (pv 7) pa_nil))))))))))
  (pss_cons (ps_set (i := 9) nd rfl (.inl rfl) (Hs.pe_own O__law_sum hr (by first | decide | omega) (by rfl) (pa_cons (pv 4) pa_nil)))
  (pss_cons (ps_for PassesOwn.never rfl (pi_range1 (by rfl) g_range (pa_cons pe_int pa_nil)) (pg_name (i := 10) nd rfl (.inl rfl)) (pss_cons (ps_asg (Hs.pe_own O__law_spot hr (by first | decide | omega) (by rfl) (pa_cons (pv 1) (pa_cons (pv 2) pa_nil))) (pg_tup rfl (pgs_cons (pg_name (i := 11) nd rfl (.inr rfl)) (pgs_cons (pg_name (i := 12) nd rfl (.inr rfl)) pgs_nil))))
  (pss_cons (ps_set (i := 13) nd rfl (.inl rfl) (pe_lst (pa_cons (Hs.pe_metX (E := E0) M_light hr (by decide) passL (pv 3) (pa_cons (pv 11) (pa_cons (pv 12) pa_nil))) (pa_cons (Hs.pe_metN (E := E0) M_lightN hr (by decide) passL (pv 3) (pa_cons (pv 11) (pa_cons (pv 12) pa_nil)) (pk_cons pe_non pk_nil)) (pa_cons (Hs.pe_metN (E := E0) M_lightN hr (by decide) passL (pv 3) (pa_cons (pv 11) (pa_cons (pv 12) pa_nil)) (pk_cons (pe_tup pa_nil) pk_nil)) pa_nil)))))
  (pss_cons (ps_if (pt_not (pt_val (Hs.pe_own O__law_same hr (by first | decide | omega) (by rfl) (pa_cons (pv 13) (pa_cons (pe_op op_rep (pe_lst (pa_cons (pv 9) pa_nil)) pe_int) pa_nil))))) (pss_one (ps_ret pe_bl)) pss_nil)
  (pss_cons (ps_set (i := 14) nd rfl (.inr rfl) (Hs.pe_own O__law_far hr (by first | decide | omega) (by rfl) (pa_cons (pv 1) pa_nil)))
  (pss_cons (ps_set (i := 15) nd rfl (.inl rfl) (pe_lst (pa_cons (Hs.pe_lam (T := [(pt, lamQ)]) TB rfl (List.mem_singleton.mpr rfl) (fun p hp _ => by rw [List.mem_singleton.mp hp] <;> rfl) rfl (Hs.free_by (sc := defScope sLaw) (by decide +kernel))) pa_nil)))
  (pss_cons (ps_expr (pe_bm PySem.F.plainAttrs_list PySem.F.slot_list_append PySem.F.type_list_append mt_append (pv 15) (pa_cons (Hs.pe_lam (T := [(pt, lamQ)]) TB rfl (List.mem_singleton.mpr rfl) (fun p hp _ => by rw [List.mem_singleton.mp hp] <;> rfl) rfl (Hs.free_by (sc := defScope sLaw) (by decide +kernel))) pa_nil)))
  (pss_cons (ps_expr (pe_bm PySem.F.plainAttrs_list PySem.F.slot_list_append PySem.F.type_list_append mt_append (pv 15) (pa_cons (Hs.pe_lam (T := [(pt, lamQ)]) TB rfl (List.mem_singleton.mpr rfl) (fun p hp _ => by rw [List.mem_singleton.mp hp] <;> rfl) rfl (Hs.free_by (sc := defScope sLaw) (by decide +kernel))) pa_nil)))
  (pss_one (ps_if (pt_cmpR (op_neD hr.units) (Hs.pe_ownB (sp := fun base => spAll P w K mg base 8 lamQ cN cL cK cB cS cM cC) O__law_all_tried (fun _ => rfl) hr (by decide) (by rfl) (pa_cons (pv 15) pa_nil)) (pe_lst (pa_cons (pe_tup (pa_cons pe_str pa_nil)) (pa_cons (pe_tup (pa_cons pe_str pa_nil)) (pa_cons (pe_tup (pa_cons pe_str pa_nil)) pa_nil)))) (nomark _)) (pss_one (ps_ret pe_bl)) pss_nil))))))))))
  (pss_one (ps_ret (pe_and (pe_cmpR (op_eqD hr.units) (pe_glob (by rfl) g_WHITE.1 g_WHITE.2) (pe_tup (pa_cons pe_int (pa_cons pe_int (pa_cons pe_int pa_nil)))) (nomark _)) (pe_one (pe_cmpR (op_eqD hr.units) (Hs.pe_metX (E := E0) M_light hr (by decide) passL (Hs.pe_mkX M_House hr (by decide) (by rfl)) (pa_cons pe_int (pa_cons pe_int pa_nil))) (pe_tup (pa_cons pe_int (pa_cons pe_int (pa_cons pe_int pa_nil)))) (nomark _))))))))))))), ?_⟩
  obtain ⟨a, ns, rfl, hS0, hl, hT, k⟩ := h
  refine ⟨_, rfl, a, ns, rfl, hS0, hl, fun b l H1 nb nl B1 e1 => ?_⟩
  have hT1 := hT.ext e1
  dsimp only [gName, List.set]
  refine ⟨_, rfl, b, l, ns, 0, rfl, B1, by decide, fun g gw gx gy H2 G ng hg B2 b2 => ?_⟩
  obtain ⟨xb1, hb1⟩ := bag_lst B1
  obtain ⟨xb2, hb2⟩ := bag_lst B2
  have T2 := tabs_but hT1 hb1 b2
  dsimp only [gName, List.set]
  refine fun h dx hh hdx ndx => ⟨h, dx, rfl, upd_same, fun s0 p q H3 kp3 hh3 np nq npq hp3 hq3 hF3 => ⟨rfl, ?_⟩⟩
  have old : ∀ {c : Addr} {o : HO}, H2 c = some o → upd (upd H2 dx (.own h)) h (.ins C dx []) c = some o := fun hc => by
    rw [upd_ne (ne_of_none hc hh), upd_ne (ne_of_none hc hdx)]
    exact hc
  have e3 : Ex H2 H3 := fun c o hc => kp3 c o (old hc) (ne_of_none hc hh)
  have nh : ∀ {c : Addr} {o : HO}, H2 c = some o → c ≠ p ∧ c ≠ q := fun hc => ⟨ne_of_none (old hc) np, ne_of_none (old hc) nq⟩
  dsimp only [gName, List.set]
  refine ⟨sz_of (by simp), fun lt hlt => ?_⟩
  have e4 := Ex.new (o := .lst []) hlt
  have B3 := B2.ext (m := 3) e3 (by omega)
  have S4 : S09 K C [(pt, lamQ)] ns b l g gw gx gy h dx p q lt 3 0 [] [] (upd H3 lt (.lst [])) := ⟨B3.ext e4 (Nat.le_refl _), (T2.ext e3).ext e4, (HsA.made hh3 hp3 hq3 npq hF3).ext e4, e4 _ _ (e3 _ _ hg), G, ⟨[], upd_same, rfl, fun i p x hp => by cases hp⟩, nh hb2, nh B2.ls, bag_ne B3 hlt, Ne.symm (ne_of_none B3.ls hlt), Ne.symm (ne_of_none hp3 hlt), Ne.symm (ne_of_none hq3 hlt)⟩
  generalize upd H3 lt (.lst []) = H4 at S4 ⊢
  dsimp only [gName, List.set]
  refine q_cut (M := fun σ' H' => ∃ (ls : List (List Chc × Bool)) (v5 v6 v7 v8 : Option V), σ' = [some (.ref a), some (.ref b), some (.ref g), some (.ref h), some (.ref lt), v5, v6, v7, v8, none, none, none, none, none, none, none] ∧ S09 K C [(pt, lamQ)] ns b l g gw gx gy h dx p q lt 100 20 ls (litOn ls) H' ∧ ls.length ≤ 6) ?_ ?_
  · refine s_forRD (fun n H' => (1 ≤ n ∧ n ≤ 6) ∧ S09 K C [(pt, lamQ)] ns b l g gw gx gy h dx p q lt 4 0 [] [] H') (fun kk hk => ⟨_, rfl, b, l, ns, 3, 6, rfl, S4.bag, by decide, by decide, by decide, fun v H5 v0 v1 B5 b5 => ⟨_, _, rfl, rfl, hk _ H5 ⟨⟨by omega, by omega⟩, S4.but B5 b5⟩⟩⟩)
      (fun n i σ' H' => n ≤ 6 ∧ ∃ (ls : List (List Chc × Bool)) (v5 v6 v7 v8 : Option V), σ' = [some (.ref a), some (.ref b), some (.ref g), some (.ref h), some (.ref lt), v5, v6, v7, v8, none, none, none, none, none, none, none] ∧ S09 K C [(pt, lamQ)] ns b l g gw gx gy h dx p q lt (4 + 10 * i) (2 * i) ls (litOn ls) H' ∧ ls.length = i) (fun n H5 m => ⟨⟨by omega, by omega⟩, m.1.2, [], none, none, none, none, rfl, m.2, rfl⟩) ?_ ?_
    · rintro n i σ' H5 hi ⟨hn, ls, v5, v6, v7, v8, rfl, S5, rfl⟩
      have hi6 : ls.length < 6 := by omega
      dsimp only [List.set]
      refine ⟨_, rfl, _, rfl, b, l, g, ns, _, gw, gx, gy, rfl, S5.bag, by omega, S5.grid, S5.G, fun sp z H6 hz nsp hsp B6 b6 => ⟨_, rfl, b, l, ns, _, rfl, B6, by omega, fun tn y H7 hy ntn htn B7 b7 => ⟨_, _, rfl, ?_⟩⟩⟩
      obtain ⟨xb6, hb6⟩ := bag_lst B6
      have S7 := (S5.but B6 b6).but B7 b7
      have hsp7 := (Kp.but hb6 b7).tup hsp
      dsimp only [List.set]
      refine q_cut (M := fun σ' H' => ∃ (t : Addr) (y : Tri), σ' = [some (.ref a), some (.ref b), some (.ref g), some (.ref h), some (.ref lt), some (.int (ls.length : Int)), some (.ref sp), some (.ref t), some (.int ((ls.length : Int) + 1)), none, none, none, none, none, none, none] ∧ S09 K C [(pt, lamQ)] ns b l g gw gx gy h dx p q lt (4 + 10 * ls.length + 2 + 6 + 1) (2 * ls.length + 1) (ls ++ [([(z.1, z.2, y)], true)]) (litOn ls) H' ∧ SqT K H' t (tri y)) ?_ ?_
      · refine ⟨_, rfl, b, l, ns, _, 3, rfl, S7.bag, by omega, by decide, by decide, fun v H8 v0 v1 B8 b8 => ⟨rfl, _, rfl, ?_⟩⟩
        have S8 := S7.but B8 b8
        obtain ⟨xb7, hb7⟩ := bag_lst S7.bag
        have hsp8 := (Kp.but hb7 b8).tup hsp7
        have htn8 := (Kp.but hb7 b8).tup htn
        obtain ⟨fs, hi8, hf8, _⟩ := S8.hs.ins
        obtain ⟨⟨xp, hp8⟩, xq, hq8⟩ := S8.hs.lsts
        by_cases hv : v = 0
        · refine ite_T (decide_eq_true (by rw [hv])) ?_
          refine ⟨_, rfl, h, dx, fs, rfl, hi8, hf8, _, rfl, sp, _, 0, _, rfl, rfl, st_of hsp8, rfl, _, rfl, sp, _, 1, _, rfl, rfl, st_of hsp8, rfl, ?_⟩
          refine ⟨h, W, dx, p, q, _, ls, z.1, z.2, 9, 9, 9, rfl, hW H8, S8.hs, InFar.near hz.1 hz.2, lit_ok ⟨by decide, by decide, by decide⟩, by omega, by omega, fun H9 k9 a9 => ⟨sz_of (by simp), fun t9 ht9 => ⟨_, _, rfl, ?_⟩⟩⟩
          exact ⟨t9, (9, 9, 9), rfl, (S8.kept k9 a9).ext (Ex.new ht9) (Nat.le_refl _), st_of upd_same⟩
        · refine ite_F (decide_eq_false (fun z => hv (by injection z))) ?_
          refine ⟨_, rfl, h, dx, fs, rfl, hi8, hf8, _, rfl, sp, _, 0, _, rfl, rfl, st_of hsp8, rfl, _, rfl, sp, _, 1, _, rfl, rfl, st_of hsp8, rfl, _, rfl, rfl, rfl, ?_⟩
          refine ⟨h, tn, dx, p, q, _, ls, z.1, z.2, y.1, y.2.1, y.2.2, rfl, st_of htn8, S8.hs, InFar.near hz.1 hz.2, lit_ok hy, by omega, by omega, fun H9 k9 a9 => ?_⟩
          exact ⟨tn, y, rfl, S8.kept k9 a9, st_of ((k9.kp hi8 hp8 hq8).tup htn8)⟩
      · rintro σ' H9 ⟨t, y, rfl, S9, ht9⟩
        refine q_when (et_sameI (K := K) (x := (ls.length : Int) + 1) (ev_var rfl) (ev_op (ev_var rfl) ev_c rv_I0)) (fun ht => Bool.noConfusion ht) (fun _ H10 e10 => ?_)
        have S10 := S9.ext (n' := 4 + 10 * ls.length + 2 + 6 + 1) e10 (Nat.le_refl _)
        have ht10 := ex_t e10 ht9
        refine ⟨_, rfl, b, l, ns, _, 4, rfl, S10.bag, by omega, by decide, by decide, fun v H11 v0 v1 B11 b11 => ⟨rfl, _, rfl, ?_⟩⟩
        obtain ⟨xb10, hb10⟩ := bag_lst S10.bag
        have S11 := S10.but B11 b11
        have ht11 := (Kp.but hb10 b11).sqt ht10
        obtain ⟨fs, hi11, _, hf11, _⟩ := S11.hs.ins
        by_cases hv : v = 0
        · refine ite_T (decide_eq_true (by rw [hv])) ?_
          refine ⟨_, rfl, h, dx, fs, rfl, hi11, hf11, _, rfl, h, dx, p, q, _, ls.length, _, (z.1, z.2, y), true, rfl, S11.hs, by simp, by omega, fun H12 k12 a12 => ?_⟩
          have S12 := S11.kept k12 a12
          rw [set_last] at S12
          refine ⟨hn, ls ++ [([(z.1, z.2, y)], false)], _, _, _, _, rfl, ?_, by rw [List.length_append] <;> rfl⟩
          rw [litOn_snoc]
          have e0 : (if false = true then [(z.1, z.2, y).2.2] else [] : List Tri) = [] := rfl
          rw [e0, List.append_nil]
          exact S12.ext (Ex.refl _) (by omega)
        · refine ite_F (decide_eq_false (fun z => hv (by injection z))) ?_
          obtain ⟨ps, hlt11, hL11⟩ := S11.lit
          have hpl : ps.length ≤ 1000 := by
            rw [hL11.1]
            have := litOn_len ls
            omega
          refine ⟨_, rfl, .inl ⟨rfl, _, sq_of hlt11⟩, _, rfl, lt, _, _, rfl, rfl, hlt11, sz_lt (by rw [List.length_map]; omega), ?_⟩
          refine ⟨hn, ls ++ [([(z.1, z.2, y)], true)], _, _, _, _, rfl, ?_, by rw [List.length_append] <;> rfl⟩
          rw [litOn_snoc]
          exact (S11.more hlt11 hL11 ht11).wk (n' := 4 + 10 * (ls.length + 1)) (m' := 2 * (ls.length + 1)) (by omega) (by omega)
    · rintro n σ' H5 ⟨hn, ls, v5, v6, v7, v8, rfl, S5, hls⟩
      refine ⟨ls, v5, v6, v7, v8, rfl, ?_, by omega⟩
      exact S5.wk (by omega) (by omega)
  · rintro σ' H5 ⟨ls, v5, v6, v7, v8, rfl, S5, hls⟩
    obtain ⟨ps, hlt5, hL5⟩ := S5.lit
    refine ⟨_, rfl, lt, ps, litOn ls, rfl, sq_of hlt5, hL5, by have := litOn_len ls; omega, fun du H6 ndu e6 hdu => ?_⟩
    have S6 := S5.ext (n' := 100) e6 (Nat.le_refl _)
    dsimp only [gName, List.set]
    refine q_forR1 (n := 4) (ea_cons ev_c ea_nil) (by decide) (fun i σ' H' => (∃ v10 v11 v12 v13 v14 v15 : Option V, σ' = [some (.ref a), some (.ref b), some (.ref g), some (.ref h), some (.ref lt), v5, v6, v7, v8, some (.ref du), v10, v11, v12, v13, v14, v15]) ∧ S09 K C [(pt, lamQ)] ns b l g gw gx gy h dx p q lt (100 + 4 * i) 20 ls (litOn ls) H' ∧ H' du = some (.tup (tri (sum3 (litOn ls))))) ?_ ?_ ?_
    · intro H7 e7
      exact ⟨⟨none, none, none, none, none, none, rfl⟩, S6.ext e7 (by omega), e7 _ _ hdu⟩
    · rintro i σ' H7 hi ⟨⟨v10, v11, v12, v13, v14, v15, rfl⟩, S7, hdu7⟩
      refine ⟨_, rfl, _, rfl, b, l, g, ns, _, gw, gx, gy, rfl, S7.bag, by omega, S7.grid, S7.G, fun sp z H8 hz nsp hsp B8 b8 => ⟨sp, _, rfl, st_of hsp, rfl, _, _, rfl, _, _, rfl, rfl, ?_⟩⟩
      have S8 := S7.but B8 b8
      obtain ⟨xb7, hb7⟩ := bag_lst S7.bag
      have hdu8 := (Kp.but hb7 b8).tup hdu7
      dsimp only [gName, List.set]
      have near : InFar [z.1, z.2] := InFar.near hz.1 hz.2
      obtain ⟨fs, hi8, _, _, hf8⟩ := S8.hs.ins
      -- the light, asked three ways
      refine ⟨_, rfl, h, dx, fs, rfl, hi8, hf8, _, rfl, _, rfl, ?_⟩
      refine ⟨h, dx, p, q, _, ls, z.1, z.2, .non, rfl, S8.hs, fun hF => absurd near hF, fun _ => .inl ⟨rfl, fun t1 H9 nt1 e9 ht1 => ?_⟩⟩
      refine ⟨_, rfl, h, dx, fs, rfl, e9 _ _ hi8, hf8, _, rfl, _, rfl, rfl, rfl, ?_⟩
      refine ⟨h, dx, p, q, _, ls, z.1, z.2, .non, rfl, S8.hs.ext e9, fun hF => absurd near hF, fun _ => .inl ⟨rfl, fun t2 H10 nt2 e10 ht2 => ?_⟩⟩
      have e810 := e9.trans e10
      refine ⟨_, rfl, h, dx, fs, rfl, e810 _ _ hi8, hf8, _, rfl, _, rfl, sz_of (by simp), fun em hem => ⟨rfl, rfl, ?_⟩⟩
      have x11 := Ex.new (o := .tup []) hem
      refine ⟨h, dx, p, q, _, ls, z.1, z.2, .ref em, rfl, S8.hs.ext (e810.trans x11), fun hF => absurd near hF, fun _ => .inr ⟨em, [], rfl, st_of upd_same, fun z => absurd rfl z, fun _ t3 H11 nt3 e11 ht3 => ?_⟩⟩
      refine ⟨sz_of (by simp), fun fl hfl => ?_⟩
      have x12 := Ex.new (o := .lst [V.ref t1, .ref t2, .ref t3]) hfl
      have e811 := (e810.trans x11).trans e11
      have e812 := e811.trans x12
      have S12 := S8.ext (n' := 100 + 4 * i + 2) e812 (Nat.le_refl _)
      have hdu12 := e812 _ _ hdu8
      have hfl12 := upd_same (H := H11) (a := fl) (o := .lst [V.ref t1, .ref t2, .ref t3])
      have g1 := ((((e10.trans x11).trans e11).trans x12)) _ _ ht1
      have g2 := ((x11.trans e11).trans x12) _ _ ht2
      have g3 := x12 _ _ ht3
      generalize upd H11 fl (.lst [V.ref t1, .ref t2, .ref t3]) = H12 at S12 hdu12 hfl12 g1 g2 g3 ⊢
      dsimp only [gName, List.set]
      refine q_when (b := false) (fun H13 e13 Q' q' => ?_) (fun ht => Bool.noConfusion ht) (fun _ H13 e13 => ?_)
      · refine ⟨_, rfl, _, rfl, sz_of (by simp), fun l1 hl1 => ⟨l1, 3, [.ref du], rfl, rfl, upd_same, by decide, by decide, sz_of (by simp), fun l2 hl2 => ⟨_, _, rfl, ?_, fun H14 e14 => ⟨true, rfl, q' H14 (((Ex.new hl1).trans (Ex.new hl2)).trans e14)⟩⟩⟩⟩
        have xx := (Ex.new (o := .lst [V.ref du]) hl1).trans (Ex.new (o := .lst [V.ref du, .ref du, .ref du]) hl2)
        have ee := e13.trans xx
        have d0 := st_of (K := K) (ee _ _ hdu12)
        refine .inr ⟨fl, l2, [.ref t1, .ref t2, .ref t3], [.ref du, .ref du, .ref du], rfl, rfl, .inl ⟨sq_of (ee _ _ hfl12), sq_of upd_same⟩, rfl, by show 3 ≤ 1000; decide, fun i x y hx hy => ?_⟩
        match i, hx, hy with
        | 0, hx, hy => cases hx; cases hy; exact sm_tri (st_of (ee _ _ g1)) d0
        | 1, hx, hy => cases hx; cases hy; exact sm_tri (st_of (ee _ _ g2)) d0
        | 2, hx, hy => cases hx; cases hy; exact sm_tri (st_of (ee _ _ g3)) d0
        | i + 3, hx, hy => cases hx
      have S13 := S12.ext (n' := 100 + 4 * i + 2) e13 (Nat.le_refl _)
      have hdu13 := e13 _ _ hdu12
      refine ⟨_, rfl, b, l, ns, _, rfl, S13.bag, by omega, fun od H15 od1 od2 B15 b15 => ?_⟩
      have S15 := S13.but B15 b15
      obtain ⟨xb13, hb13⟩ := bag_lst S13.bag
      have hdu15 := (Kp.but hb13 b15).tup hdu13
      dsimp only [gName, List.set]
      -- three functions, kept in a list
      refine ⟨S15.tabs, fun f1 c1 H16 eN16 _ T16 _ hf1 hc1 => ⟨sz_of (by simp), fun al hal => ?_⟩⟩
      have S16 := S15.extN eN16 T16
      have eA := Ex.new (o := .lst [V.ref f1]) hal
      obtain ⟨na1, na2, na3, na4, na5⟩ := S16.fresh hal
      have S17 := S16.ext (n' := 100 + 4 * i + 2 + 2) eA (Nat.le_refl _)
      have hdu17 := eA _ _ (eN16 _ _ hdu15 (fun _ z => by cases z))
      have hf17 := eA _ _ hf1
      have hc17 := eA _ _ hc1
      have lamL : ∀ {f : Addr} {F : LF} (ys : List V), LamO f F ≠ .lst ys := fun ys z => by
        unfold LamO at z
        cases z
      have codL : ∀ {c : Addr} {q : Str} (ys : List V), LamX.CodeO c q ≠ .lst ys := fun ys z => by
        unfold LamX.CodeO at z
        cases z
      refine ⟨_, rfl, .inl ⟨rfl, _, sq_of upd_same⟩, S17.tabs, fun f2 c2 H18 eN18 _ T18 _ hf2 hc2 => ⟨al, _, _, rfl, rfl, eN18 _ _ upd_same (fun _ z => by cases z), sz_of (by simp), ?_⟩⟩
      have hal18 := eN18 al _ upd_same (fun _ z => by cases z)
      have up18 : ∀ q u, H18 q = some u → (∀ ys, u ≠ .lst ys) → upd H18 al (.lst ([.ref f1] ++ [.ref f2])) q = some u := fun q u h n => by
        rw [upd_ne (ne_of h hal18 (n _))]
        exact h
      have S19 := (S17.extN eN18 T18).upd (o := .lst ([.ref f1] ++ [.ref f2])) hal18 na1 na2 na3 na4 na5
      have hdu19 := up18 _ _ (eN18 _ _ hdu17 (fun _ z => by cases z)) (fun _ z => by cases z)
      have hf19 := up18 _ _ (eN18 _ _ hf17 lamO_ne) lamL
      have hc19 := up18 _ _ (eN18 _ _ hc17 LamX.codeO_ne) codL
      have hg19 := up18 _ _ hf2 lamL
      have hd19 := up18 _ _ hc2 codL
      refine ⟨_, rfl, .inl ⟨rfl, _, sq_of upd_same⟩, S19.tabs, fun f3 c3 H20 eN20 _ T20 _ hf3 hc3 => ⟨al, _, _, rfl, rfl, eN20 _ _ upd_same (fun _ z => by cases z), sz_of (by simp), ?_⟩⟩
      have hal20 := eN20 al _ upd_same (fun _ z => by cases z)
      have up20 : ∀ q u, H20 q = some u → (∀ ys, u ≠ .lst ys) → upd H20 al (.lst (([.ref f1] ++ [.ref f2]) ++ [.ref f3])) q = some u := fun q u h n => by
        rw [upd_ne (ne_of h hal20 (n _))]
        exact h
      have S21 := (S19.extN eN20 T20).upd (o := .lst (([.ref f1] ++ [.ref f2]) ++ [.ref f3])) hal20 na1 na2 na3 na4 na5
      have hdu21 := up20 _ _ (eN20 _ _ hdu19 (fun _ z => by cases z)) (fun _ z => by cases z)
      have hf21 := up20 _ _ (eN20 _ _ hf19 lamO_ne) lamL
      have hc21 := up20 _ _ (eN20 _ _ hc19 LamX.codeO_ne) codL
      have hg21 := up20 _ _ (eN20 _ _ hg19 lamO_ne) lamL
      have hd21 := up20 _ _ (eN20 _ _ hd19 LamX.codeO_ne) codL
      have hh21 := up20 _ _ hf3 lamL
      have hi21 := up20 _ _ hc3 codL
      have hal21 : upd H20 al (.lst (([.ref f1] ++ [.ref f2]) ++ [.ref f3])) al = some (.lst ([f1, f2, f3].map V.ref)) := upd_same
      generalize upd H20 al (.lst (([.ref f1] ++ [.ref f2]) ++ [.ref f3])) = H21 at S21 hdu21 hf21 hc21 hg21 hd21 hh21 hi21 hal21 ⊢
      dsimp only
      obtain ⟨fs2, hin, _, _, hfl2⟩ := S21.hs.ins
      refine s_when (b := false) ?tst (fun ht => Bool.noConfusion ht) (fun _ H22 e22 => ⟨⟨_, _, _, _, _, _, rfl⟩, S21.ext e22 (by omega), e22 _ _ hdu21⟩)
      case tst =>
        intro H' e Q' q'
        refine ⟨_, rfl, fun base' up clo => ⟨al, [f1, f2, f3], [[.str "badplace"], [.str "badplace"], [.str "badsetting"]], rfl, sq_of (e _ _ hal21), rfl, by show 3 ≤ 1000; decide, fun i g xs hg hx => ?_, fun r ps H2 hp e2 hps hl3 tups => ?_⟩⟩
        · match i, hg, hx with
          | 0, hg, hx =>
            cases hg; cases hx
            refine tells_fly (fr := ["_law_house", "_law_odd", "_law_b"]) (ws := [some (.ref h), some (.int od), some (.int z.2)]) (sp := fun ws vs H Q E => vs = [] ∧ tMethN C "light" 3 ([("setting" : Str)] : List Str).length (spLightH K C cP cBs) (fun vs zs => vs ++ zs) E (tVar 0) (tCons (tVar 1) (tCons (tVar 2) tNil)) (tCons (tTup (tCons (tC (.int 0)) tNil)) tNil) (NdefX.startF ["_law_house", "_law_odd", "_law_b"] [] ws) H Q) ?LO0 ?CC0 rfl (e _ _ hf21) (e _ _ hc21) wP fun H3 Q3 E3 e3 fl => ⟨rfl, _, rfl, h, dx, fs2, rfl, (e.trans e3) _ _ hin, hfl2, _, rfl, _, rfl, sz_of (by simp), fun z0 hz0 => ⟨rfl, rfl, h, dx, p, q, _, ls, od, z.2, .ref z0, rfl, S21.hs.ext ((e.trans e3).trans (Ex.new hz0)), fun _ => (show Flies cP "badplace" H3 E3 from fl).ext (Ex.new hz0), fun hF => absurd hF (not_far1 od1)⟩⟩
            case LO0 => exact lok_gen rfl (NdefX.nscope_by (by rfl)) fun A outer s H f E hr => pe_metN (MN base' up) hr (Nat.le_refl _) (passes_call (E := E) (takes_of rfl rfl rfl rfl) (fun _ _ _ _ h => h)) (pe_var (i := 0) rfl (.inr (.inr rfl))) (pa_cons (pe_var (i := 1) rfl (.inr (.inr rfl))) (pa_cons (pe_var (i := 2) rfl (.inr (.inr rfl))) pa_nil)) (pk_cons (pe_tup (pa_cons pe_int pa_nil)) pk_nil)
            case CC0 =>
              refine clo _ ["_law_house", "_law_odd", "_law_b"] [3, 14, 12] fun ok => ?_
              dsimp only
              refine caps_ns ok ?_ ?_ rfl
              · exact free_by (sc := defScope sLaw) (by decide +kernel)
              · decide +kernel
          | 1, hg, hx =>
            cases hg; cases hx
            refine tells_fly (fr := ["_law_house", "_law_a", "_law_odd"]) (ws := [some (.ref h), some (.int z.1), some (.int od)]) (sp := fun ws vs H Q E => vs = [] ∧ tMeth C "light" (spLightH K C cP cBs) [.non] E (tVar 0) (tCons (tVar 1) (tCons (tVar 2) tNil)) (NdefX.startF ["_law_house", "_law_a", "_law_odd"] [] ws) H Q) ?LO1 ?CC1 rfl (e _ _ hg21) (e _ _ hd21) wP fun H3 Q3 E3 e3 fl => ⟨rfl, _, rfl, h, dx, fs2, rfl, (e.trans e3) _ _ hin, hfl2, _, rfl, _, rfl, h, dx, p, q, _, ls, z.1, od, .non, rfl, S21.hs.ext (e.trans e3), fun _ => fl, fun hF => absurd hF (not_far2 od1)⟩
            case LO1 => exact lok_gen rfl (NdefX.nscope_by (by rfl)) fun A outer s H f E hr => pe_metX (ML base' up) hr (Nat.le_refl _) (passes_call (E := E) (takes_of rfl rfl rfl rfl) (fun _ _ _ _ h => h)) (pe_var (i := 0) rfl (.inr (.inr rfl))) (pa_cons (pe_var (i := 1) rfl (.inr (.inr rfl))) (pa_cons (pe_var (i := 2) rfl (.inr (.inr rfl))) pa_nil))
            case CC1 =>
              refine clo _ ["_law_house", "_law_a", "_law_odd"] [3, 11, 14] fun ok => ?_
              dsimp only
              refine caps_ns ok ?_ ?_ rfl
              · exact free_by (sc := defScope sLaw) (by decide +kernel)
              · decide +kernel
          | 2, hg, hx =>
            cases hg; cases hx
            refine tells_fly (fr := ["_law_house", "_law_a", "_law_b"]) (ws := [some (.ref h), some (.int z.1), some (.int z.2)]) (sp := fun ws vs H Q E => vs = [] ∧ tMethN C "light" 3 ([("setting" : Str)] : List Str).length (spLightH K C cP cBs) (fun vs zs => vs ++ zs) E (tVar 0) (tCons (tVar 1) (tCons (tVar 2) tNil)) (tCons (tTup (tCons (tC (.int 0)) tNil)) tNil) (NdefX.startF ["_law_house", "_law_a", "_law_b"] [] ws) H Q) ?LO2 ?CC2 rfl (e _ _ hh21) (e _ _ hi21) wB fun H3 Q3 E3 e3 fl => ⟨rfl, _, rfl, h, dx, fs2, rfl, (e.trans e3) _ _ hin, hfl2, _, rfl, _, rfl, sz_of (by simp), fun z0 hz0 => ⟨rfl, rfl, h, dx, p, q, _, ls, z.1, z.2, .ref z0, rfl, S21.hs.ext ((e.trans e3).trans (Ex.new hz0)), fun hF => absurd near hF, fun _ => .inr ⟨z0, [0], rfl, st_of upd_same, fun _ => (show Flies cBs "badsetting" H3 E3 from fl).ext (Ex.new hz0), fun w => by cases w⟩⟩⟩
            case LO2 => exact lok_gen rfl (NdefX.nscope_by (by rfl)) fun A outer s H f E hr => pe_metN (MN base' up) hr (Nat.le_refl _) (passes_call (E := E) (takes_of rfl rfl rfl rfl) (fun _ _ _ _ h => h)) (pe_var (i := 0) rfl (.inr (.inr rfl))) (pa_cons (pe_var (i := 1) rfl (.inr (.inr rfl))) (pa_cons (pe_var (i := 2) rfl (.inr (.inr rfl))) pa_nil)) (pk_cons (pe_tup (pa_cons pe_int pa_nil)) pk_nil)
            case CC2 =>
              refine clo _ ["_law_house", "_law_a", "_law_b"] [3, 11, 12] fun ok => ?_
              dsimp only
              refine caps_ns ok ?_ ?_ rfl
              · exact free_by (sc := defScope sLaw) (by decide +kernel)
              · decide +kernel
          | i + 3, hg, hx => cases hg
        · obtain ⟨r1, r2, r3, rfl⟩ : ∃ r1 r2 r3, ps = [r1, r2, r3] := match ps, hl3 with
            | [r1, r2, r3], _ => ⟨r1, r2, r3, rfl⟩
          refine ⟨sz_of (by simp), fun u1 hu1 => ⟨sz_of (by simp), fun u2 hu2 => ⟨sz_of (by simp), fun u3 hu3 => ⟨sz_of (by simp), fun rp hrp => ?_⟩⟩⟩⟩
          have y4 := Ex.new (o := .lst [V.ref u1, .ref u2, .ref u3]) hrp
          have y3 := (Ex.new (o := .tup [V.str "badsetting"]) hu3).trans y4
          have y2 := (Ex.new (o := .tup [V.str "badplace"]) hu2).trans y3
          have y1 := (Ex.new (o := .tup [V.str "badplace"]) hu1).trans y2
          have dB : ∀ {H' : Hp} {p : Addr} {z : Str}, H' p = some (.tup [.str z]) → Dp K H' (.ref p) (.tuple [.str z]) := fun h => .tup (st_of h) (.cons (.str _) .nil)
          have k1 := dB (y1 _ _ (tups 0 r1 _ rfl rfl))
          have k2 := dB (y1 _ _ (tups 1 r2 _ rfl rfl))
          have k3 := dB (y1 _ _ (tups 2 r3 _ rfl rfl))
          have j1 := dB (y2 _ _ (upd_same (H := H2) (a := u1) (o := .tup [V.str "badplace"])))
          have j2 := dB (y3 _ _ (upd_same (a := u2) (o := .tup [V.str "badplace"])))
          have j3 := dB (y4 _ _ (upd_same (a := u3) (o := .tup [V.str "badsetting"])))
          exact ⟨.list [.tuple [.str "badplace"], .tuple [.str "badplace"], .tuple [.str "badsetting"]], .list [.tuple [.str "badplace"], .tuple [.str "badplace"], .tuple [.str "badsetting"]], .lst (sq_of (y1 _ _ hps)) (.cons k1 (.cons k2 (.cons k3 .nil))), .lst (sq_of upd_same) (.cons j1 (.cons j2 (.cons j3 .nil))), by decide +kernel, by decide +kernel, false, by decide +kernel, q' _ (e2.trans y1)⟩
    · rintro σ' H7 ⟨⟨v10, v11, v12, v13, v14, v15, rfl⟩, S7, hdu7⟩
      have d9 : ∀ {H' : Hp} {p : Addr}, SqT K H' p [.int 9, .int 9, .int 9] → Dp K H' (.ref p) (.tuple [.int 9, .int 9, .int 9]) := fun h => .tup h (.cons (.int _) (.cons (.int _) (.cons (.int _) .nil)))
      have d0 : ∀ {H' : Hp} {p : Addr}, SqT K H' p [.int 0, .int 0, .int 0] → Dp K H' (.ref p) (.tuple [.int 0, .int 0, .int 0]) := fun h => .tup h (.cons (.int _) (.cons (.int _) (.cons (.int _) .nil)))
      refine ⟨sz_of (by simp), fun t9 ht9 => ⟨_, _, d9 (hW _), d9 (st_of upd_same), by decide +kernel, by decide +kernel, _, rfl, ite_T (by decide +kernel) ?_⟩⟩
      refine fun h2 dx2 hh2 hdx2 ndx2 => ⟨h2, dx2, rfl, upd_same, fun s1 p1 q1 H8 kp8 hh8 np8 nq8 npq8 hp8 hq8 hF8 => ⟨rfl, h2, dx2, _, rfl, hh8, rfl, ?_⟩⟩
      refine ⟨h2, dx2, p1, q1, 0, [], 0, 0, .non, rfl, HsA.made hh8 hp8 hq8 npq8 hF8, fun hF => absurd (InFar.near (by decide) (by decide)) hF, fun _ => .inl ⟨rfl, fun t H9 nt e9 ht => ⟨sz_of (by simp), fun t0 ht0 => ?_⟩⟩⟩
      refine ⟨_, _, d0 (st_of ((Ex.new ht0) _ _ ht)), d0 (st_of upd_same), by decide +kernel, by decide +kernel, ?_⟩
      have he : PyData.eqv (.tuple [.int 0, .int 0, .int 0]) (.tuple [.int 0, .int 0, .int 0]) = true := by decide +kernel
      rw [he]
      exact k _
end
end Hs
namespace Hs
open PySem PySem.Spec PyProof.Rows L2 Evl
/-- the error BadPlace, as it stands -/
theorem BadPlace_ok {P : Program} {w : World} {K : PySem.W.Frag} {mg : Str → Option Value} {base : Heap} (hP : (P.main.file : Str) = "/claim/cut.py") (hPs : (P.main.scope.names.lookup ("super" : Str)).isSome = false) (gs : mg "super" = none) (gx : mg "BadPlace" = some (.ref (He.ga K "BadPlace")))
    (h : errB K dBadPlace = true) (e : fnC K dBadPlace.cls = dBadPlace.val) : ErrF P w K mg base 1 "BadPlace" (He.ga K "BadPlace") "badplace" := by
  obtain ⟨h1, h⟩ := He.ba h
  obtain ⟨h2, h⟩ := He.ba h
  obtain ⟨h3, h⟩ := He.ba h
  obtain ⟨h4, h⟩ := He.ba h
  obtain ⟨h5, h⟩ := He.ba h
  obtain ⟨h6, h⟩ := He.ba h
  obtain ⟨h7, h⟩ := He.ba h
  obtain ⟨h8, h9⟩ := He.ba h
  obtain ⟨c, cc, fd, I0, hf, hc⟩ := iniB_ok e h2
  have ox := oexB_ok h1
  have T : SupC P K mg (He.ga K "BadPlace") c cc "ValueError" "ValueError.__new__" "ValueError.__init__" (tailOf "ValueError") := ⟨ox, by rw [hP]; exact hf, hc, of_decide_eq_true h3, He.eqO_ok h4, of_decide_eq_true h5, He.eqO_ok h6, gs, hPs⟩
  have G : FnOk P w K mg base CX0 1 (iniA K "BadPlace") fd ["self", "why"] (spErr (He.ga K "BadPlace") "badplace") := err_ok (st := sBadPlace) basV T I0 (He.eqO_ok h9) rfl
    (NdefX.nscope_by (by decide +kernel)) rfl rfl rfl rfl rfl (fun _ => rfl) (fun _ => rfl) (fun _ => rfl) (fun _ => rfl) (fun _ => rfl)
  obtain ⟨oc, od, dV, kV, doc, pm, an, ct, osl, rfl, lk, hcd, hD⟩ := I0
  rcases hD with ⟨z, _⟩ | ⟨_, Ta, o, its, m, rfl, lT, oT, rT⟩
  · cases z
  · have hits : ∃ d, its = [d] := by
      have l := rT.length
      match its, l with
      | [d], _ => exact ⟨d, rfl⟩
    obtain ⟨d, rfl⟩ := hits
    have rd : RelV (.str "no such place") d := match rT with
      | .cons r _ => r
    refine ⟨⟨_, _, _, _, basV, ox⟩, gx, _, _, _, _, d, He.eqO_ok h7, of_decide_eq_true h8, G, rd, fun s us X hlen => ?_⟩
    have hl1 : us.length = 1 := by
      rw [List.length_append] at hlen
      exact Nat.succ.inj hlen
    match us, hl1 with
    | [u], _ =>
      refine BindsTo.of_looks fun M => ?_
      exact looks_items X lT oT (.of_pure rfl)
/-- the error BadLight, as it stands -/
theorem BadLight_ok {P : Program} {w : World} {K : PySem.W.Frag} {mg : Str → Option Value} {base : Heap} (hP : (P.main.file : Str) = "/claim/cut.py") (hPs : (P.main.scope.names.lookup ("super" : Str)).isSome = false) (gs : mg "super" = none) (gx : mg "BadLight" = some (.ref (He.ga K "BadLight")))
    (h : errB K dBadLight = true) (e : fnC K dBadLight.cls = dBadLight.val) : ErrF P w K mg base 1 "BadLight" (He.ga K "BadLight") "badlight" := by
  obtain ⟨h1, h⟩ := He.ba h
  obtain ⟨h2, h⟩ := He.ba h
  obtain ⟨h3, h⟩ := He.ba h
  obtain ⟨h4, h⟩ := He.ba h
  obtain ⟨h5, h⟩ := He.ba h
  obtain ⟨h6, h⟩ := He.ba h
  obtain ⟨h7, h⟩ := He.ba h
  obtain ⟨h8, h9⟩ := He.ba h
  obtain ⟨c, cc, fd, I0, hf, hc⟩ := iniB_ok e h2
  have ox := oexB_ok h1
  have T : SupC P K mg (He.ga K "BadLight") c cc "ValueError" "ValueError.__new__" "ValueError.__init__" (tailOf "ValueError") := ⟨ox, by rw [hP]; exact hf, hc, of_decide_eq_true h3, He.eqO_ok h4, of_decide_eq_true h5, He.eqO_ok h6, gs, hPs⟩
  have G : FnOk P w K mg base CX0 1 (iniA K "BadLight") fd ["self", "why"] (spErr (He.ga K "BadLight") "badlight") := err_ok (st := sBadLight) basV T I0 (He.eqO_ok h9) rfl
    (NdefX.nscope_by (by decide +kernel)) rfl rfl rfl rfl rfl (fun _ => rfl) (fun _ => rfl) (fun _ => rfl) (fun _ => rfl) (fun _ => rfl)
  obtain ⟨oc, od, dV, kV, doc, pm, an, ct, osl, rfl, lk, hcd, hD⟩ := I0
  rcases hD with ⟨z, _⟩ | ⟨_, Ta, o, its, m, rfl, lT, oT, rT⟩
  · cases z
  · have hits : ∃ d, its = [d] := by
      have l := rT.length
      match its, l with
      | [d], _ => exact ⟨d, rfl⟩
    obtain ⟨d, rfl⟩ := hits
    have rd : RelV (.str "no such light") d := match rT with
      | .cons r _ => r
    refine ⟨⟨_, _, _, _, basV, ox⟩, gx, _, _, _, _, d, He.eqO_ok h7, of_decide_eq_true h8, G, rd, fun s us X hlen => ?_⟩
    have hl1 : us.length = 1 := by
      rw [List.length_append] at hlen
      exact Nat.succ.inj hlen
    match us, hl1 with
    | [u], _ =>
      refine BindsTo.of_looks fun M => ?_
      exact looks_items X lT oT (.of_pure rfl)
/-- the error BadSift, as it stands -/
theorem BadSift_ok {P : Program} {w : World} {K : PySem.W.Frag} {mg : Str → Option Value} {base : Heap} (hP : (P.main.file : Str) = "/claim/cut.py") (hPs : (P.main.scope.names.lookup ("super" : Str)).isSome = false) (gs : mg "super" = none) (gx : mg "BadSift" = some (.ref (He.ga K "BadSift")))
    (h : errB K dBadSift = true) (e : fnC K dBadSift.cls = dBadSift.val) : ErrF P w K mg base 1 "BadSift" (He.ga K "BadSift") "badsift" := by
  obtain ⟨h1, h⟩ := He.ba h
  obtain ⟨h2, h⟩ := He.ba h
  obtain ⟨h3, h⟩ := He.ba h
  obtain ⟨h4, h⟩ := He.ba h
  obtain ⟨h5, h⟩ := He.ba h
  obtain ⟨h6, h⟩ := He.ba h
  obtain ⟨h7, h⟩ := He.ba h
  obtain ⟨h8, h9⟩ := He.ba h
  obtain ⟨c, cc, fd, I0, hf, hc⟩ := iniB_ok e h2
  have ox := oexB_ok h1
  have T : SupC P K mg (He.ga K "BadSift") c cc "ValueError" "ValueError.__new__" "ValueError.__init__" (tailOf "ValueError") := ⟨ox, by rw [hP]; exact hf, hc, of_decide_eq_true h3, He.eqO_ok h4, of_decide_eq_true h5, He.eqO_ok h6, gs, hPs⟩
  have G : FnOk P w K mg base CX0 1 (iniA K "BadSift") fd ["self", "why"] (spErr (He.ga K "BadSift") "badsift") := err_ok (st := sBadSift) basV T I0 (He.eqO_ok h9) rfl
    (NdefX.nscope_by (by decide +kernel)) rfl rfl rfl rfl rfl (fun _ => rfl) (fun _ => rfl) (fun _ => rfl) (fun _ => rfl) (fun _ => rfl)
  obtain ⟨oc, od, dV, kV, doc, pm, an, ct, osl, rfl, lk, hcd, hD⟩ := I0
  rcases hD with ⟨z, _⟩ | ⟨_, Ta, o, its, m, rfl, lT, oT, rT⟩
  · cases z
  · have hits : ∃ d, its = [d] := by
      have l := rT.length
      match its, l with
      | [d], _ => exact ⟨d, rfl⟩
    obtain ⟨d, rfl⟩ := hits
    have rd : RelV (.str "no such sift") d := match rT with
      | .cons r _ => r
    refine ⟨⟨_, _, _, _, basV, ox⟩, gx, _, _, _, _, d, He.eqO_ok h7, of_decide_eq_true h8, G, rd, fun s us X hlen => ?_⟩
    have hl1 : us.length = 1 := by
      rw [List.length_append] at hlen
      exact Nat.succ.inj hlen
    match us, hl1 with
    | [u], _ =>
      refine BindsTo.of_looks fun M => ?_
      exact looks_items X lT oT (.of_pure rfl)
/-- the error BadSetting, as it stands -/
theorem BadSetting_ok {P : Program} {w : World} {K : PySem.W.Frag} {mg : Str → Option Value} {base : Heap} (hP : (P.main.file : Str) = "/claim/cut.py") (hPs : (P.main.scope.names.lookup ("super" : Str)).isSome = false) (gs : mg "super" = none) (gx : mg "BadSetting" = some (.ref (He.ga K "BadSetting")))
    (h : errB K dBadSetting = true) (e : fnC K dBadSetting.cls = dBadSetting.val) : ErrF P w K mg base 1 "BadSetting" (He.ga K "BadSetting") "badsetting" := by
  obtain ⟨h1, h⟩ := He.ba h
  obtain ⟨h2, h⟩ := He.ba h
  obtain ⟨h3, h⟩ := He.ba h
  obtain ⟨h4, h⟩ := He.ba h
  obtain ⟨h5, h⟩ := He.ba h
  obtain ⟨h6, h⟩ := He.ba h
  obtain ⟨h7, h⟩ := He.ba h
  obtain ⟨h8, h9⟩ := He.ba h
  obtain ⟨c, cc, fd, I0, hf, hc⟩ := iniB_ok e h2
  have ox := oexB_ok h1
  have T : SupC P K mg (He.ga K "BadSetting") c cc "ValueError" "ValueError.__new__" "ValueError.__init__" (tailOf "ValueError") := ⟨ox, by rw [hP]; exact hf, hc, of_decide_eq_true h3, He.eqO_ok h4, of_decide_eq_true h5, He.eqO_ok h6, gs, hPs⟩
  have G : FnOk P w K mg base CX0 1 (iniA K "BadSetting") fd ["self", "why"] (spErr (He.ga K "BadSetting") "badsetting") := err_ok (st := sBadSetting) basV T I0 (He.eqO_ok h9) rfl
    (NdefX.nscope_by (by decide +kernel)) rfl rfl rfl rfl rfl (fun _ => rfl) (fun _ => rfl) (fun _ => rfl) (fun _ => rfl) (fun _ => rfl)
  obtain ⟨oc, od, dV, kV, doc, pm, an, ct, osl, rfl, lk, hcd, hD⟩ := I0
  rcases hD with ⟨z, _⟩ | ⟨_, Ta, o, its, m, rfl, lT, oT, rT⟩
  · cases z
  · have hits : ∃ d, its = [d] := by
      have l := rT.length
      match its, l with
      | [d], _ => exact ⟨d, rfl⟩
    obtain ⟨d, rfl⟩ := hits
    have rd : RelV (.str "no such setting") d := match rT with
      | .cons r _ => r
    refine ⟨⟨_, _, _, _, basV, ox⟩, gx, _, _, _, _, d, He.eqO_ok h7, of_decide_eq_true h8, G, rd, fun s us X hlen => ?_⟩
    have hl1 : us.length = 1 := by
      rw [List.length_append] at hlen
      exact Nat.succ.inj hlen
    match us, hl1 with
    | [u], _ =>
      refine BindsTo.of_looks fun M => ?_
      exact looks_items X lT oT (.of_pure rfl)
/-- the error Unknown, as it stands -/
theorem Unknown_ok {P : Program} {w : World} {K : PySem.W.Frag} {mg : Str → Option Value} {base : Heap} (hP : (P.main.file : Str) = "/claim/cut.py") (hPs : (P.main.scope.names.lookup ("super" : Str)).isSome = false) (gs : mg "super" = none) (gx : mg "Unknown" = some (.ref (He.ga K "Unknown")))
    (h : errB K dUnknown = true) (e : fnC K dUnknown.cls = dUnknown.val) : ErrF P w K mg base 1 "Unknown" (He.ga K "Unknown") "unknown" := by
  obtain ⟨h1, h⟩ := He.ba h
  obtain ⟨h2, h⟩ := He.ba h
  obtain ⟨h3, h⟩ := He.ba h
  obtain ⟨h4, h⟩ := He.ba h
  obtain ⟨h5, h⟩ := He.ba h
  obtain ⟨h6, h⟩ := He.ba h
  obtain ⟨h7, h⟩ := He.ba h
  obtain ⟨h8, h9⟩ := He.ba h
  obtain ⟨c, cc, fd, I0, hf, hc⟩ := iniB_ok e h2
  have ox := oexB_ok h1
  have T : SupC P K mg (He.ga K "Unknown") c cc "ValueError" "ValueError.__new__" "ValueError.__init__" (tailOf "ValueError") := ⟨ox, by rw [hP]; exact hf, hc, of_decide_eq_true h3, He.eqO_ok h4, of_decide_eq_true h5, He.eqO_ok h6, gs, hPs⟩
  have G : FnOk P w K mg base CX0 1 (iniA K "Unknown") fd ["self", "why"] (spErr (He.ga K "Unknown") "unknown") := err_ok (st := sUnknown) basV T I0 (He.eqO_ok h9) rfl
    (NdefX.nscope_by (by decide +kernel)) rfl rfl rfl rfl rfl (fun _ => rfl) (fun _ => rfl) (fun _ => rfl) (fun _ => rfl) (fun _ => rfl)
  obtain ⟨oc, od, dV, kV, doc, pm, an, ct, osl, rfl, lk, hcd, hD⟩ := I0
  rcases hD with ⟨z, _⟩ | ⟨_, Ta, o, its, m, rfl, lT, oT, rT⟩
  · cases z
  · have hits : ∃ d, its = [d] := by
      have l := rT.length
      match its, l with
      | [d], _ => exact ⟨d, rfl⟩
    obtain ⟨d, rfl⟩ := hits
    have rd : RelV (.str "an open lamp stands") d := match rT with
      | .cons r _ => r
    refine ⟨⟨_, _, _, _, basV, ox⟩, gx, _, _, _, _, d, He.eqO_ok h7, of_decide_eq_true h8, G, rd, fun s us X hlen => ?_⟩
    have hl1 : us.length = 1 := by
      rw [List.length_append] at hlen
      exact Nat.succ.inj hlen
    match us, hl1 with
    | [u], _ =>
      refine BindsTo.of_looks fun M => ?_
      exact looks_items X lT oT (.of_pure rfl)
/-- the error Full, as it stands -/
theorem Full_ok {P : Program} {w : World} {K : PySem.W.Frag} {mg : Str → Option Value} {base : Heap} (hP : (P.main.file : Str) = "/claim/cut.py") (hPs : (P.main.scope.names.lookup ("super" : Str)).isSome = false) (gs : mg "super" = none) (gx : mg "Full" = some (.ref (He.ga K "Full")))
    (h : errB K dFull = true) (e : fnC K dFull.cls = dFull.val) : ErrF P w K mg base 1 "Full" (He.ga K "Full") "full" := by
  obtain ⟨h1, h⟩ := He.ba h
  obtain ⟨h2, h⟩ := He.ba h
  obtain ⟨h3, h⟩ := He.ba h
  obtain ⟨h4, h⟩ := He.ba h
  obtain ⟨h5, h⟩ := He.ba h
  obtain ⟨h6, h⟩ := He.ba h
  obtain ⟨h7, h⟩ := He.ba h
  obtain ⟨h8, h9⟩ := He.ba h
  obtain ⟨c, cc, fd, I0, hf, hc⟩ := iniB_ok e h2
  have ox := oexB_ok h1
  have T : SupC P K mg (He.ga K "Full") c cc "RuntimeError" "RuntimeError.__new__" "RuntimeError.__init__" (tailOf "RuntimeError") := ⟨ox, by rw [hP]; exact hf, hc, of_decide_eq_true h3, He.eqO_ok h4, of_decide_eq_true h5, He.eqO_ok h6, gs, hPs⟩
  have G : FnOk P w K mg base CX0 1 (iniA K "Full") fd ["self", "why"] (spErr (He.ga K "Full") "full") := err_ok (st := sFull) basR T I0 (He.eqO_ok h9) rfl
    (NdefX.nscope_by (by decide +kernel)) rfl rfl rfl rfl rfl (fun _ => rfl) (fun _ => rfl) (fun _ => rfl) (fun _ => rfl) (fun _ => rfl)
  obtain ⟨oc, od, dV, kV, doc, pm, an, ct, osl, rfl, lk, hcd, hD⟩ := I0
  rcases hD with ⟨z, _⟩ | ⟨_, Ta, o, its, m, rfl, lT, oT, rT⟩
  · cases z
  · have hits : ∃ d, its = [d] := by
      have l := rT.length
      match its, l with
      | [d], _ => exact ⟨d, rfl⟩
    obtain ⟨d, rfl⟩ := hits
    have rd : RelV (.str "no more have room") d := match rT with
      | .cons r _ => r
    refine ⟨⟨_, _, _, _, basR, ox⟩, gx, _, _, _, _, d, He.eqO_ok h7, of_decide_eq_true h8, G, rd, fun s us X hlen => ?_⟩
    have hl1 : us.length = 1 := by
      rw [List.length_append] at hlen
      exact Nat.succ.inj hlen
    match us, hl1 with
    | [u], _ =>
      refine BindsTo.of_looks fun M => ?_
      exact looks_items X lT oT (.of_pure rfl)
theorem facts {P : Program} {w : World} {K : PySem.W.Frag} {h : Heap} {mg : Str → Option Value} {f : Addr} (hP : (P.main.file : Str) = "/claim/cut.py") (hPs : (P.main.scope.names.lookup ("super" : Str)).isSome = false) (X : K.In h) (G : h.Ns mainGlobals mg) (hfa : mg ("law" : Str) = some (.ref f)) (c : SaysY fa fn tb [("law", none)] [dBadPlace, dBadLight, dBadSift, dBadSetting, dUnknown, dFull] exB w h K) :
    ∃ (fd : FuncData) (cc pt : Addr), h.get? pt = some { cls := .none, data := .fields #[] } ∧ K.lookup pt = none ∧ PySem.W.CodeHd h cc pt ∧ (∀ (s : Shared) (v : Value), BindsTo s fd ⟨[v], []⟩ [("_law_script", v)]) ∧
      ∀ base : Heap, LamX.TabB base mg cc pt → FnOk P w K mg base CX0 11 f fd ["_law_script"] (spLaw K [(pt, lamQ)]) := by
  have cd := c.x.t.d
  obtain ⟨fd_check_sift, F_check_sift⟩ : ∃ fd, FnP K "check_sift" sCheck (He.ga K "check_sift") fd := cd.def_ 0 (d := dsCheck) rfl
  have m_check_sift := He.glo_ok X G (cd.fact 0 (f := .glo "check_sift") rfl)
  obtain ⟨fd_sifted, F_sifted⟩ : ∃ fd, FnP K "sifted" sSifted (He.ga K "sifted") fd := cd.def_ 1 (d := dsSifted) rfl
  have m_sifted := He.glo_ok X G (cd.fact 1 (f := .glo "sifted") rfl)
  obtain ⟨fd_summed, F_summed⟩ : ∃ fd, FnP K "summed" sSummed (He.ga K "summed") fd := cd.def_ 2 (d := dsSummed) rfl
  have m_summed := He.glo_ok X G (cd.fact 2 (f := .glo "summed") rfl)
  obtain ⟨fd_figures_of, F_figures_of⟩ : ∃ fd, FnP K "figures_of" sFigs (He.ga K "figures_of") fd := cd.def_ 3 (d := dsFigs) rfl
  have m_figures_of := He.glo_ok X G (cd.fact 3 (f := .glo "figures_of") rfl)
  obtain ⟨fd_let_by_all, F_let_by_all⟩ : ∃ fd, FnP K "let_by_all" sLetAll (He.ga K "let_by_all") fd := cd.def_ 4 (d := dsLetAll) rfl
  have m_let_by_all := He.glo_ok X G (cd.fact 4 (f := .glo "let_by_all") rfl)
  obtain ⟨fd_brought, F_brought⟩ : ∃ fd, FnP K "brought" sBrought (He.ga K "brought") fd := cd.def_ 5 (d := dsBrought) rfl
  have m_brought := He.glo_ok X G (cd.fact 5 (f := .glo "brought") rfl)
  obtain ⟨fd_choice_lights, F_choice_lights⟩ : ∃ fd, FnP K "choice_lights" sChoice (He.ga K "choice_lights") fd := cd.def_ 6 (d := dsChoice) rfl
  have m_choice_lights := He.glo_ok X G (cd.fact 6 (f := .glo "choice_lights") rfl)
  obtain ⟨fd_picked_light, F_picked_light⟩ : ∃ fd, FnP K "picked_light" sPicked (He.ga K "picked_light") fd := cd.def_ 7 (d := dsPicked) rfl
  have m_picked_light := He.glo_ok X G (cd.fact 7 (f := .glo "picked_light") rfl)
  obtain ⟨fd_check_place, F_check_place⟩ : ∃ fd, FnP K "check_place" sPlace (He.ga K "check_place") fd := cd.def_ 8 (d := dsPlace) rfl
  have m_check_place := He.glo_ok X G (cd.fact 8 (f := .glo "check_place") rfl)
  obtain ⟨fd_check_light, F_check_light⟩ : ∃ fd, FnP K "check_light" sLightC (He.ga K "check_light") fd := cd.def_ 9 (d := dsLightC) rfl
  have m_check_light := He.glo_ok X G (cd.fact 9 (f := .glo "check_light") rfl)
  obtain ⟨fd_row_number, F_row_number⟩ : ∃ fd, FnP K "row_number" sNum (He.ga K "row_number") fd := cd.def_ 10 (d := dsNum) rfl
  have m_row_number := He.glo_ok X G (cd.fact 10 (f := .glo "row_number") rfl)
  obtain ⟨fd_counts_of, F_counts_of⟩ : ∃ fd, FnP K "counts_of" sCounts (He.ga K "counts_of") fd := cd.def_ 11 (d := dsCounts) rfl
  have m_counts_of := He.glo_ok X G (cd.fact 11 (f := .glo "counts_of") rfl)
  obtain ⟨fd_checked_setting, F_checked_setting⟩ : ∃ fd, FnP K "checked_setting" sChecked (He.ga K "checked_setting") fd := cd.def_ 12 (d := dsChecked) rfl
  have m_checked_setting := He.glo_ok X G (cd.fact 12 (f := .glo "checked_setting") rfl)
  obtain ⟨fd_picks_of, F_picks_of⟩ : ∃ fd, FnP K "picks_of" sPicks (He.ga K "picks_of") fd := cd.def_ 13 (d := dsPicks) rfl
  have m_picks_of := He.glo_ok X G (cd.fact 13 (f := .glo "picks_of") rfl)
  obtain ⟨fd_bare_floor, F_bare_floor⟩ : ∃ fd, FnP K "bare_floor" sBare (He.ga K "bare_floor") fd := cd.def_ 14 (d := dsBare) rfl
  have m_bare_floor := He.glo_ok X G (cd.fact 14 (f := .glo "bare_floor") rfl)
  obtain ⟨fd_with_thing, F_with_thing⟩ : ∃ fd, FnP K "with_thing" sWith (He.ga K "with_thing") fd := cd.def_ 15 (d := dsWith) rfl
  have m_with_thing := He.glo_ok X G (cd.fact 15 (f := .glo "with_thing") rfl)
  obtain ⟨fd_thing_of, F_thing_of⟩ : ∃ fd, FnP K "thing_of" sThing (He.ga K "thing_of") fd := cd.def_ 16 (d := dsThing) rfl
  have m_thing_of := He.glo_ok X G (cd.fact 16 (f := .glo "thing_of") rfl)
  obtain ⟨fd_first_state, F_first_state⟩ : ∃ fd, FnP K "first_state" sFirst (He.ga K "first_state") fd := cd.def_ 17 (d := dsFirst) rfl
  have m_first_state := He.glo_ok X G (cd.fact 17 (f := .glo "first_state") rfl)
  obtain ⟨fd_check_room, F_check_room⟩ : ∃ fd, FnP K "check_room" sRoom (He.ga K "check_room") fd := cd.def_ 18 (d := dsRoom) rfl
  have m_check_room := He.glo_ok X G (cd.fact 18 (f := .glo "check_room") rfl)
  obtain ⟨fd_put, F_put⟩ : ∃ fd, FnP K "put" sPut (He.ga K "put") fd := cd.def_ 19 (d := dsPut) rfl
  have m_put := He.glo_ok X G (cd.fact 19 (f := .glo "put") rfl)
  obtain ⟨fd_do_lamp, F_do_lamp⟩ : ∃ fd, FnP K "do_lamp" sDoLamp (He.ga K "do_lamp") fd := cd.def_ 20 (d := dsDoLamp) rfl
  have m_do_lamp := He.glo_ok X G (cd.fact 20 (f := .glo "do_lamp") rfl)
  obtain ⟨fd_do_switch, F_do_switch⟩ : ∃ fd, FnP K "do_switch" sSwitch (He.ga K "do_switch") fd := cd.def_ 21 (d := dsSwitch) rfl
  have m_do_switch := He.glo_ok X G (cd.fact 21 (f := .glo "do_switch") rfl)
  obtain ⟨fd_applied, F_applied⟩ : ∃ fd, FnP K "applied" sApplied (He.ga K "applied") fd := cd.def_ 22 (d := dsApplied) rfl
  have m_applied := He.glo_ok X G (cd.fact 22 (f := .glo "applied") rfl)
  obtain ⟨fd__law_bag, F__law_bag⟩ : ∃ fd, FnP K "_law_bag" sBag (He.ga K "_law_bag") fd := cd.def_ 23 (d := dsBag) rfl
  have m__law_bag := He.glo_ok X G (cd.fact 23 (f := .glo "_law_bag") rfl)
  obtain ⟨fd__law_pull, F__law_pull⟩ : ∃ fd, FnP K "_law_pull" sPull (He.ga K "_law_pull") fd := cd.def_ 24 (d := dsPull) rfl
  have m__law_pull := He.glo_ok X G (cd.fact 24 (f := .glo "_law_pull") rfl)
  obtain ⟨fd__law_same, F__law_same⟩ : ∃ fd, FnP K "_law_same" sSame (He.ga K "_law_same") fd := cd.def_ 25 (d := dsSame) rfl
  have m__law_same := He.glo_ok X G (cd.fact 25 (f := .glo "_law_same") rfl)
  obtain ⟨fd__law_all_tried, F__law_all_tried⟩ : ∃ fd, FnP K "_law_all_tried" sAll (He.ga K "_law_all_tried") fd := cd.def_ 26 (d := dsAll) rfl
  have m__law_all_tried := He.glo_ok X G (cd.fact 26 (f := .glo "_law_all_tried") rfl)
  obtain ⟨fd__law_tried, F__law_tried⟩ : ∃ fd, FnP K "_law_tried" sTried (He.ga K "_law_tried") fd := cd.def_ 27 (d := dsTried) rfl
  have m__law_tried := He.glo_ok X G (cd.fact 27 (f := .glo "_law_tried") rfl)
  obtain ⟨fd__law_far, F__law_far⟩ : ∃ fd, FnP K "_law_far" sFar (He.ga K "_law_far") fd := cd.def_ 28 (d := dsFar) rfl
  have m__law_far := He.glo_ok X G (cd.fact 28 (f := .glo "_law_far") rfl)
  obtain ⟨fd__law_sum, F__law_sum⟩ : ∃ fd, FnP K "_law_sum" sSum (He.ga K "_law_sum") fd := cd.def_ 29 (d := dsSum) rfl
  have m__law_sum := He.glo_ok X G (cd.fact 29 (f := .glo "_law_sum") rfl)
  obtain ⟨fd__law_grid, F__law_grid⟩ : ∃ fd, FnP K "_law_grid" sGrid (He.ga K "_law_grid") fd := cd.def_ 30 (d := dsGrid) rfl
  have m__law_grid := He.glo_ok X G (cd.fact 30 (f := .glo "_law_grid") rfl)
  obtain ⟨fd__law_spot, F__law_spot⟩ : ∃ fd, FnP K "_law_spot" sSpot (He.ga K "_law_spot") fd := cd.def_ 31 (d := dsSpot) rfl
  have m__law_spot := He.glo_ok X G (cd.fact 31 (f := .glo "_law_spot") rfl)
  obtain ⟨fd__law_tint, F__law_tint⟩ : ∃ fd, FnP K "_law_tint" sTint (He.ga K "_law_tint") fd := cd.def_ 32 (d := dsTint) rfl
  have m__law_tint := He.glo_ok X G (cd.fact 32 (f := .glo "_law_tint") rfl)
  obtain ⟨fd_law, F_law⟩ : ∃ fd, FnP K "law" sLaw (He.ga K "law") fd := cd.def_ 33 (d := dsLaw) rfl
  have m_law := He.glo_ok X G (cd.fact 33 (f := .glo "law") rfl)
  obtain ⟨fd_House___init__, F_House___init__⟩ : ∃ fd, FunD K "__init__" "House.__init__" (defArgs sInit) (defBody sInit) (defScope sInit) [] [] (He.ma K (He.ga K "House") "__init__") fd := cd.def_ 34 (d := dsInit) rfl
  obtain ⟨fd_House_do, F_House_do⟩ : ∃ fd, FunD K "do" "House.do" (defArgs sDo) (defBody sDo) (defScope sDo) [] [] (He.ma K (He.ga K "House") "do") fd := cd.def_ 35 (d := dsDo) rfl
  have mt_House_do := He.meth_ok (cd.fact 79 (f := .meth "House" "do") rfl)
  obtain ⟨fd_House_lamp, F_House_lamp⟩ : ∃ fd, FunD K "lamp" "House.lamp" (defArgs sLampM) (defBody sLampM) (defScope sLampM) [] [("light", .ref (He.ga K "WHITE"))] (He.ma K (He.ga K "House") "lamp") fd := cd.def_ 36 (d := dsLampM) rfl
  have mt_House_lamp := He.meth_ok (cd.fact 80 (f := .meth "House" "lamp") rfl)
  obtain ⟨fd_House_switch, F_House_switch⟩ : ∃ fd, FunD K "switch" "House.switch" (defArgs sSwitchM) (defBody sSwitchM) (defScope sSwitchM) [] [] (He.ma K (He.ga K "House") "switch") fd := cd.def_ 37 (d := dsSwitchM) rfl
  have mt_House_switch := He.meth_ok (cd.fact 81 (f := .meth "House" "switch") rfl)
  obtain ⟨fd_House_light, F_House_light⟩ : ∃ fd, FunD K "light" "House.light" (defArgs sLightM) (defBody sLightM) (defScope sLightM) [] [("setting", .non)] (He.ma K (He.ga K "House") "light") fd := cd.def_ 38 (d := dsLightM) rfl
  have mt_House_light := He.meth_ok (cd.fact 82 (f := .meth "House" "light") rfl)
  have m_BadPlace := He.glo_ok X G (cd.fact 34 (f := .glo "BadPlace") rfl)
  have m_BadLight := He.glo_ok X G (cd.fact 35 (f := .glo "BadLight") rfl)
  have m_BadSift := He.glo_ok X G (cd.fact 36 (f := .glo "BadSift") rfl)
  have m_BadSetting := He.glo_ok X G (cd.fact 37 (f := .glo "BadSetting") rfl)
  have m_Unknown := He.glo_ok X G (cd.fact 38 (f := .glo "Unknown") rfl)
  have m_Full := He.glo_ok X G (cd.fact 39 (f := .glo "Full") rfl)
  have m_NoThing := He.glo_ok X G (cd.fact 40 (f := .glo "NoThing") rfl)
  have m_NoLook := He.glo_ok X G (cd.fact 41 (f := .glo "NoLook") rfl)
  have m_Looked := He.glo_ok X G (cd.fact 42 (f := .glo "Looked") rfl)
  have m_BadText := He.glo_ok X G (cd.fact 43 (f := .glo "BadText") rfl)
  have m_ShadeError := He.glo_ok X G (cd.fact 44 (f := .glo "ShadeError") rfl)
  have m_Missing := He.glo_ok X G (cd.fact 45 (f := .glo "Missing") rfl)
  have m_Crowded := He.glo_ok X G (cd.fact 46 (f := .glo "Crowded") rfl)
  have m_House := He.glo_ok X G (cd.fact 47 (f := .glo "House") rfl)
  have m_SIFTS := He.glo_ok X G (cd.fact 48 (f := .glo "SIFTS") rfl)
  have m_DARK := He.glo_ok X G (cd.fact 49 (f := .glo "DARK") rfl)
  have m_WHITE := He.glo_ok X G (cd.fact 50 (f := .glo "WHITE") rfl)
  have m_SORTS := He.glo_ok X G (cd.fact 51 (f := .glo "SORTS") rfl)
  have m_FORMS := He.glo_ok X G (cd.fact 52 (f := .glo "FORMS") rfl)
  have m_DOERS := He.glo_ok X G (cd.fact 53 (f := .glo "DOERS") rfl)
  have g_len := He.free_ok X G (cd.fact 54 (f := .free "len") rfl)
  have g_list := He.free_ok X G (cd.fact 55 (f := .free "list") rfl)
  have g_int := He.free_ok X G (cd.fact 56 (f := .free "int") rfl)
  have g_str := He.free_ok X G (cd.fact 57 (f := .free "str") rfl)
  have g_bool := He.free_ok X G (cd.fact 58 (f := .free "bool") rfl)
  have g_tuple := He.free_ok X G (cd.fact 59 (f := .free "tuple") rfl)
  have g_isinstance := He.free_ok X G (cd.fact 60 (f := .free "isinstance") rfl)
  have g_all := He.free_ok X G (cd.fact 61 (f := .free "all") rfl)
  have g_range := He.free_ok X G (cd.fact 62 (f := .free "range") rfl)
  have g_super := He.free_ok X G (cd.fact 63 (f := .free "super") rfl)
  have g_zip := He.free_ok X G (cd.fact 64 (f := .free "zip") rfl)
  have g_min := He.free_ok X G (cd.fact 65 (f := .free "min") rfl)
  have g_max := He.free_ok X G (cd.fact 66 (f := .free "max") rfl)
  have g_abs := He.free_ok X G (cd.fact 67 (f := .free "abs") rfl)
  have g_sum := He.free_ok X G (cd.fact 68 (f := .free "sum") rfl)
  obtain ⟨t_FAR, m_FAR⟩ := He.int_ok X G (cd.fact 69 (f := .int "FAR" 1000000) rfl)
  obtain ⟨t_BRIGHT, m_BRIGHT⟩ := He.int_ok X G (cd.fact 70 (f := .int "BRIGHT" 1000000) rfl)
  obtain ⟨t_MOST_THINGS, m_MOST_THINGS⟩ := He.int_ok X G (cd.fact 71 (f := .int "MOST_THINGS" 12) rfl)
  obtain ⟨t_ALL_COLOURS, m_ALL_COLOURS⟩ := He.str_ok X G (cd.fact 72 (f := .str "ALL_COLOURS" "rgb") rfl)
  have cl_House := He.cls_ok (cd.fact 73 (f := .cls "House") rfl)
  have mk_House := He.mkr_ok (cd.fact 74 (f := .mkr "House") rfl)
  have na_House_state := He.noat_ok (cd.fact 75 (f := .noat "House" "state") rfl)
  have na_House_past := He.noat_ok (cd.fact 76 (f := .noat "House" "past") rfl)
  have na_House_ahead := He.noat_ok (cd.fact 77 (f := .noat "House" "ahead") rfl)
  have na_House_trying := He.noat_ok (cd.fact 78 (f := .noat "House" "trying") rfl)
  obtain ⟨es_FORMS, n_FORMS, D_FORMS⟩ : ∃ es n, KDict K w (He.ga K "FORMS") es n := c.x.t.tab 0
  obtain ⟨es_DOERS, n_DOERS, D_DOERS⟩ : ∃ es n, KDict K w (He.ga K "DOERS") es n := c.x.t.tab 1
  have ef : f = He.ga K "law" := by
    have e := hfa.symm.trans m_law
    cases e
    rfl
  subst ef
  have x0 : (wordB K (He.ga K "BadPlace") (He.ga K "NoThing") (He.ga K "NoLook") (He.ga K "Looked") (He.ga K "BadText") (He.ga K "ShadeError") (He.ga K "Missing") (He.ga K "Crowded") && (wordB K (He.ga K "BadSetting") (He.ga K "NoThing") (He.ga K "NoLook") (He.ga K "Looked") (He.ga K "BadText") (He.ga K "ShadeError") (He.ga K "Missing") (He.ga K "Crowded") && (He.tupB K "SIFTS" [.str "", .str "r", .str "g", .str "b", .str "rg", .str "rb", .str "gb", .str "rgb"] && (He.tupB K "DARK" [.int 0, .int 0, .int 0] && (He.tupB K "WHITE" [.int 9, .int 9, .int 9] && (He.tupB K "SORTS" [.str "lamp", .str "post", .str "pane"] && (strB (PySem.W.nsIn K (He.ga K "FORMS") "lamp") "nnnnn" && (strB (PySem.W.nsIn K (He.ga K "FORMS") "switch") "n" && (He.eqO (PySem.W.nsIn K (He.ga K "DOERS") "lamp") (some (some (.ref (He.ga K "do_lamp")))) && (He.eqO (PySem.W.nsIn K (He.ga K "DOERS") "switch") (some (some (.ref (He.ga K "do_switch")))) && (decide (He.ga K "do_switch" ≠ He.ga K "do_lamp")))))))))))) = true := c.x.more
  obtain ⟨xw_BadPlace, x0⟩ := He.ba x0
  obtain ⟨xw_BadSetting, x0⟩ := He.ba x0
  obtain ⟨xt_SIFTS, x0⟩ := He.ba x0
  obtain ⟨xt_DARK, x0⟩ := He.ba x0
  obtain ⟨xt_WHITE, x0⟩ := He.ba x0
  obtain ⟨xt_SORTS, x0⟩ := He.ba x0
  obtain ⟨xm_fl, x0⟩ := He.ba x0
  obtain ⟨xm_fs, x0⟩ := He.ba x0
  obtain ⟨xm_dl, x0⟩ := He.ba x0
  obtain ⟨xm_ds, x0⟩ := He.ba x0
  have xm_ne := x0
  have w_BadPlace := wordB_ok xw_BadPlace
  have w_BadSetting := wordB_ok xw_BadSetting
  have ct : Cats mg (He.ga K "NoThing") (He.ga K "NoLook") (He.ga K "Looked") (He.ga K "BadText") (He.ga K "ShadeError") (He.ga K "Missing") (He.ga K "Crowded") := ⟨m_NoThing, m_NoLook, m_Looked, m_BadText, m_ShadeError, m_Missing, m_Crowded⟩
  obtain ⟨erB_BadPlace, erV_BadPlace⟩ := c.er dBadPlace (by simp)
  have Er_BadPlace : ∀ base : Heap, ErrF P w K mg base 1 "BadPlace" (He.ga K "BadPlace") "badplace" := fun base => BadPlace_ok hP hPs g_super m_BadPlace erB_BadPlace erV_BadPlace
  obtain ⟨erB_BadLight, erV_BadLight⟩ := c.er dBadLight (by simp)
  have Er_BadLight : ∀ base : Heap, ErrF P w K mg base 1 "BadLight" (He.ga K "BadLight") "badlight" := fun base => BadLight_ok hP hPs g_super m_BadLight erB_BadLight erV_BadLight
  obtain ⟨erB_BadSift, erV_BadSift⟩ := c.er dBadSift (by simp)
  have Er_BadSift : ∀ base : Heap, ErrF P w K mg base 1 "BadSift" (He.ga K "BadSift") "badsift" := fun base => BadSift_ok hP hPs g_super m_BadSift erB_BadSift erV_BadSift
  obtain ⟨erB_BadSetting, erV_BadSetting⟩ := c.er dBadSetting (by simp)
  have Er_BadSetting : ∀ base : Heap, ErrF P w K mg base 1 "BadSetting" (He.ga K "BadSetting") "badsetting" := fun base => BadSetting_ok hP hPs g_super m_BadSetting erB_BadSetting erV_BadSetting
  obtain ⟨erB_Unknown, erV_Unknown⟩ := c.er dUnknown (by simp)
  have Er_Unknown : ∀ base : Heap, ErrF P w K mg base 1 "Unknown" (He.ga K "Unknown") "unknown" := fun base => Unknown_ok hP hPs g_super m_Unknown erB_Unknown erV_Unknown
  obtain ⟨erB_Full, erV_Full⟩ := c.er dFull (by simp)
  have Er_Full : ∀ base : Heap, ErrF P w K mg base 1 "Full" (He.ga K "Full") "full" := fun base => Full_ok hP hPs g_super m_Full erB_Full erV_Full
  have hb := FunD.bindsA (ps := ["_law_script"]) F_law (fun _ _ _ _ _ _ us hl => match us, hl with | [_], _ => rfl)
  obtain ⟨oc, od, dV, kV, doc, pm, an, cdv, ctt, osl, rfl, lk, hcd, _, _⟩ := F_law.ex
  obtain ⟨cc, rfl⟩ := He.codeIn_ref hcd
  have ecc : He.codeOf K ("law", none) = cc := He.codeOf_eq (p := ("law", none)) lk rfl
  refine ⟨_, cc, He.tabOf K cc, ?_, ?_, ?_, fun s v => hb s [v] rfl, fun base TB => ?_⟩
  · have z := c.x.empty ("law", none) (List.mem_singleton.mpr rfl)
    rw [← ecc]
    exact z
  · have z := c.x.out ("law", none) (List.mem_singleton.mpr rfl)
    rw [← ecc]
    exact z
  · have z := c.x.hd ("law", none) (List.mem_singleton.mpr rfl)
    rw [← ecc]
    exact PySem.W.codeHd_of_K X z
  · have hS : ∀ H, SqT K H (He.ga K "SIFTS") siftsV := fun H => He.tupB_ok xt_SIFTS H
    have hD : ∀ H, SqT K H (He.ga K "DARK") (tri (0, 0, 0)) := fun H => He.tupB_ok xt_DARK H
    have hW : ∀ H, SqT K H (He.ga K "WHITE") [.int 9, .int 9, .int 9] := fun H => He.tupB_ok xt_WHITE H
    have hR : ∀ H, SqT K H (He.ga K "SORTS") sortsV := fun H => He.tupB_ok xt_SORTS H
    have hC : HouseC K (He.ga K "House") := ⟨cl_House, na_House_state, na_House_past, na_House_ahead, na_House_trying⟩
    -- the program
    have Xcs : ∀ base : Heap, OwnX P w K mg base 3 "check_sift" ["sift"] [] (spCheck (He.ga K "BadSift")) := fun base => ⟨_, _, [], ok_check F_check_sift (Er_BadSift base) ⟨m_SIFTS, rfl⟩ hS, m_check_sift, F_check_sift.kp, .nil, F_check_sift.bindsN (fun _ _ _ _ _ _ us hl => match us, hl with | [_], _ => rfl)⟩
    have Xsi : ∀ base : Heap, OwnX P w K mg base 4 "sifted" ["light", "sift"] [] (spSifted K (He.ga K "BadSift")) := fun base => ⟨_, _, [], ok_sifted F_sifted (Xcs base), m_sifted, F_sifted.kp, .nil, F_sifted.bindsN (fun _ _ _ _ _ _ us hl => match us, hl with | [_, _], _ => rfl)⟩
    have Osu : ∀ base : Heap, Own P w K mg base 1 "summed" ["lights"] (spSummedL K) := fun base => own_of F_summed m_summed (ok_summedL F_summed ⟨m_DARK, rfl⟩ hD) (fun _ _ _ _ _ _ us hl => match us, hl with | [_], _ => rfl)
    have Ofi : ∀ base : Heap, Own P w K mg base 1 "figures_of" ["floor"] spFigs0 := fun base => own_of F_figures_of m_figures_of (ok_figs0 F_figures_of) (fun _ _ _ _ _ _ us hl => match us, hl with | [_], _ => rfl)
    have Ole : ∀ base : Heap, Own P w K mg base 1 "let_by_all" ["figures", "way"] (spLetAll0 K) := fun base => own_of F_let_by_all m_let_by_all (ok_letAll0 F_let_by_all ⟨_, m_ALL_COLOURS, ⟨t_ALL_COLOURS, rfl⟩⟩) (fun _ _ _ _ _ _ us hl => match us, hl with | [_, _], _ => rfl)
    have Obr : ∀ base : Heap, Own P w K mg base 5 "brought" ["figures", "choice", "point"] (spBrought0 K) := fun base => own_of F_brought m_brought (ok_brought0 F_brought (Xsi base) (Ole base)) (fun _ _ _ _ _ _ us hl => match us, hl with | [_, _, _], _ => rfl)
    have Och : ∀ base : Heap, Own P w K mg base 6 "choice_lights" ["floor", "point"] (spChoice K spFigs0 (spBrought0 K)) := fun base => own_of F_choice_lights m_choice_lights (ok_choice F_choice_lights (Ofi base) (Obr base) ⟨m_DARK, rfl⟩ hD) (fun _ _ _ _ _ _ us hl => match us, hl with | [_, _], _ => rfl)
    have Opl : ∀ base : Heap, Own P w K mg base 2 "picked_light" ["table", "picks"] (spPicked K) := fun base => own_of F_picked_light m_picked_light (ok_picked F_picked_light (Osu base)) (fun _ _ _ _ _ _ us hl => match us, hl with | [_, _], _ => rfl)
    have Xpl : ∀ base : Heap, OwnX P w K mg base 3 "check_place" ["place"] [] (spPlace K (He.ga K "BadPlace")) := fun base => ⟨_, _, [], ok_place F_check_place (Er_BadPlace base) g_max g_abs ⟨_, m_FAR, ⟨t_FAR, rfl⟩⟩, m_check_place, F_check_place.kp, .nil, F_check_place.bindsN (fun _ _ _ _ _ _ us hl => match us, hl with | [_], _ => rfl)⟩
    have Xli : ∀ base : Heap, OwnX P w K mg base 3 "check_light" ["light", "most"] [] (spLightC K (He.ga K "BadLight")) := fun base => ⟨_, _, [], ok_lightC F_check_light (Er_BadLight base) g_max g_min, m_check_light, F_check_light.kp, .nil, F_check_light.bindsN (fun _ _ _ _ _ _ us hl => match us, hl with | [_, _], _ => rfl)⟩
    have Xnu : ∀ base : Heap, OwnX P w K mg base 3 "row_number" ["counts", "row"] [] (spNum K (He.ga K "BadSetting")) := fun base => ⟨_, _, [], ok_num F_row_number (Er_BadSetting base) g_zip g_len, m_row_number, F_row_number.kp, .nil, F_row_number.bindsN (fun _ _ _ _ _ _ us hl => match us, hl with | [_, _], _ => rfl)⟩
    have Oco : ∀ base : Heap, Own P w K mg base 1 "counts_of" ["lamps"] (spCounts K) := fun base => own_of F_counts_of m_counts_of (ok_counts F_counts_of g_len) (fun _ _ _ _ _ _ us hl => match us, hl with | [_], _ => rfl)
    have Xch : ∀ base : Heap, OwnX P w K mg base 4 "checked_setting" ["lamps", "setting"] [] (spChecked K (He.ga K "Unknown") (He.ga K "BadSetting")) := fun base => ⟨_, _, [], ok_checked F_checked_setting (Oco base) (Xnu base) (Er_Unknown base), m_checked_setting, F_checked_setting.kp, .nil, F_checked_setting.bindsN (fun _ _ _ _ _ _ us hl => match us, hl with | [_, _], _ => rfl)⟩
    have Opi : ∀ base : Heap, Own P w K mg base 1 "picks_of" ["lamps", "setting"] (spPicks K) := fun base => own_of F_picks_of m_picks_of (ok_picks F_picks_of g_len) (fun _ _ _ _ _ _ us hl => match us, hl with | [_, _], _ => rfl)
    have Oba : Own P w K mg base 1 "bare_floor" [] spBare := own_of F_bare_floor m_bare_floor (ok_bare F_bare_floor ⟨m_SORTS, rfl⟩ hR) (fun _ _ _ _ _ _ us hl => match us, hl with | [], _ => rfl)
    have Ofs : Own P w K mg base 2 "first_state" [] (spFirst K) := own_of F_first_state m_first_state (ok_first F_first_state Oba) (fun _ _ _ _ _ _ us hl => match us, hl with | [], _ => rfl)
    have Owi : Own P w K mg base 1 "with_thing" ["floor", "sort", "number", "thing"] spWith := own_of F_with_thing m_with_thing (ok_with F_with_thing) (fun _ _ _ _ _ _ us hl => match us, hl with | [_, _, _, _], _ => rfl)
    have Oth : Own P w K mg base 1 "thing_of" ["floor", "sort", "number"] (spThing K) := own_of F_thing_of m_thing_of (ok_thing F_thing_of ⟨m_SORTS, rfl⟩ hR) (fun _ _ _ _ _ _ us hl => match us, hl with | [_, _, _], _ => rfl)
    have Xro : OwnX P w K mg base 3 "check_room" ["rows", "most"] [] (spRoom (He.ga K "Full")) := ⟨_, _, [], ok_room F_check_room (Er_Full base) g_len, m_check_room, F_check_room.kp, .nil, F_check_room.bindsN (fun _ _ _ _ _ _ us hl => match us, hl with | [_, _], _ => rfl)⟩
    have Xpu : OwnX P w K mg base 4 "put" ["state", "sort", "thing"] [] (spPut K (He.ga K "Full")) := ⟨_, _, [], ok_put F_put Xro Owi ⟨_, m_MOST_THINGS, ⟨t_MOST_THINGS, rfl⟩⟩, m_put, F_put.kp, .nil, F_put.bindsN (fun _ _ _ _ _ _ us hl => match us, hl with | [_, _, _], _ => rfl)⟩
    have Hdl : HeldX P w K mg base 5 (He.ga K "do_lamp") (spDoLamp K (He.ga K "BadPlace") (He.ga K "BadLight") (He.ga K "Full")) := ⟨_, _, ok_doLamp F_do_lamp (Xpl base) (Xli base) Xpu ⟨_, m_BRIGHT, ⟨t_BRIGHT, rfl⟩⟩, F_do_lamp.kp, F_do_lamp.bindsN (fun _ _ _ _ _ _ us hl => match us, hl with | [_, _, _, _, _, _], _ => rfl)⟩
    have Hds : HeldX P w K mg base 5 (He.ga K "do_switch") (spSwitch K) := ⟨_, _, (ok_switch F_do_switch Oth Owi).mono (by decide), F_do_switch.kp, F_do_switch.bindsN (fun _ _ _ _ _ _ us hl => match us, hl with | [_, _], _ => rfl)⟩
    let S : Addr → Option Sp := fun a => if a = He.ga K "do_lamp" then some (spDoLamp K (He.ga K "BadPlace") (He.ga K "BadLight") (He.ga K "Full")) else if a = He.ga K "do_switch" then some (spSwitch K) else none
    have HS : ∀ f sp, S f = some sp → HeldX P w K mg base 5 f sp := fun f sp h => by
      by_cases e1 : f = He.ga K "do_lamp"
      · have z : S f = some (spDoLamp K (He.ga K "BadPlace") (He.ga K "BadLight") (He.ga K "Full")) := if_pos e1
        cases z.symm.trans h
        rw [e1]
        exact Hdl
      · have z : S f = if f = He.ga K "do_switch" then some (spSwitch K) else none := if_neg e1
        rw [z] at h
        by_cases e2 : f = He.ga K "do_switch"
        · rw [if_pos e2] at h
          cases h
          rw [e2]
          exact Hds
        · rw [if_neg e2] at h
          cases h
    have Xap : OwnX P w K mg base 6 "applied" ["state", "deed"] [] (spApplied K (He.ga K "FORMS") (He.ga K "DOERS") S) := ⟨_, _, [], ok_applied F_applied D_FORMS D_DOERS HS g_len ⟨m_FORMS, rfl⟩ ⟨m_DOERS, rfl⟩, m_applied, F_applied.kp, .nil, F_applied.bindsN (fun _ _ _ _ _ _ us hl => match us, hl with | [_, _], _ => rfl)⟩
    obtain ⟨tkl, hfl⟩ := strB_ok xm_fl
    obtain ⟨tks, hfs⟩ := strB_ok xm_fs
    have DL : DoerA K (He.ga K "FORMS") (He.ga K "DOERS") S "lamp" "nnnnn" (spDoLamp K (He.ga K "BadPlace") (He.ga K "BadLight") (He.ga K "Full")) := ⟨tkl, _, hfl, He.eqO_ok xm_dl, if_pos rfl⟩
    have DS : DoerA K (He.ga K "FORMS") (He.ga K "DOERS") S "switch" "n" (spSwitch K) := ⟨tks, _, hfs, He.eqO_ok xm_ds, (if_neg (of_decide_eq_true xm_ne)).trans (if_pos rfl)⟩
    have M_do : MetX P w K mg base 7 (He.ga K "House") "do" ["self", "deed"] [] (spDo (He.ga K "House") (spApplied K (He.ga K "FORMS") (He.ga K "DOERS") S)) := ⟨cl_House, _, _, [], ok_do F_House_do hC Xap, mt_House_do, .nil, F_House_do.bindsN (fun _ _ _ _ _ _ us hl => match us, hl with | [_, _], _ => rfl)⟩
    have FL := (ok_lampM F_House_lamp M_do).imp (lamp_h (C := He.ga K "House") DL)
    have FS := (ok_switchM F_House_switch M_do).imp (switch_h (C := He.ga K "House") DS)
    have FG : ∀ base : Heap, FnOk P w K mg base (L2.CX P w) 7 (He.ma K (He.ga K "House") "light") fd_House_light ["self", "across", "up", "setting"] (spLightH K (He.ga K "House") (He.ga K "BadPlace") (He.ga K "BadSetting")) := fun base => (ok_lightM F_House_light hC (Xpl base) (Xch base) (Och base) (Opl base) (Opi base)).imp (light_h (cU := He.ga K "Unknown"))
    have bl := FunD.binds0 (ps := ["self", "across", "up", "light"]) F_House_lamp 3 (by simp) rfl fun D doc pm an cdv ct us ks l1 l2 => match us, ks, l1, l2 with
      | [_, _, _], [_], _, _ => ⟨_, _, _, _, _, _, rfl, rfl, rfl⟩
    obtain ⟨dsl, vl, bl⟩ := bl
    have bg := FunD.binds0 (ps := ["self", "across", "up", "setting"]) F_House_light 3 (by simp) rfl fun D doc pm an cdv ct us ks l1 l2 => match us, ks, l1, l2 with
      | [_, _, _], [_], _, _ => ⟨_, _, _, _, _, _, rfl, rfl, rfl⟩
    obtain ⟨dsg, vg, bg⟩ := bg
    have kl : KBn K fd_House_lamp ["self", "across", "up", "light"] 3 ["light"] (fun us ws => us ++ ws) (fun vs zs => vs ++ zs) := by
      obtain ⟨oc, od, dV, kV, doc, pm, an, cdv, ct, osl, rfl, lk, hcd, hD, hK⟩ := F_House_lamp.ex
      rcases hD with ⟨_, rfl⟩ | ⟨e, _⟩
      · refine ⟨fun s us ws X l1 l2 => ?_, fun r1 r2 => r1.append r2⟩
        match us, ws, l1, l2 with
        | [_, _, _], [_], _, _ => exact .of_eq rfl
      · exact absurd rfl e
    have kg : KBn K fd_House_light ["self", "across", "up", "setting"] 3 ["setting"] (fun us ws => us ++ ws) (fun vs zs => vs ++ zs) := by
      obtain ⟨oc, od, dV, kV, doc, pm, an, cdv, ct, osl, rfl, lk, hcd, hD, hK⟩ := F_House_light.ex
      rcases hD with ⟨_, rfl⟩ | ⟨e, _⟩
      · refine ⟨fun s us ws X l1 l2 => ?_, fun r1 r2 => r1.append r2⟩
        match us, ws, l1, l2 with
        | [_, _, _], [_], _, _ => exact .of_eq rfl
      · exact absurd rfl e
    have M_House : MkX P w K mg base 3 "House" (He.ga K "House") ["self"] (spInit K (He.ga K "House")) := ⟨_, _, mk_House, ok_init F_House___init__ hC Ofs, m_House, F_House___init__.bindsN (fun _ _ _ _ _ _ us hl => match us, hl with | [_], _ => rfl)⟩
    have M_lamp : MetX P w K mg base 8 (He.ga K "House") "lamp" ["self", "across", "up", "light"] [.ref (He.ga K "WHITE")] (spLampH K (He.ga K "House")) := ⟨cl_House, _, _, dsl, FL, mt_House_lamp, vl, bl⟩
    have M_lampN : MetN P w K mg base 8 (He.ga K "House") "lamp" ["self", "across", "up", "light"] 3 ["light"] (spLampH K (He.ga K "House")) := ⟨cl_House, _, _, FL, mt_House_lamp, kl⟩
    have M_switch : MetX P w K mg base 8 (He.ga K "House") "switch" ["self", "number"] [] (spSwitchH K (He.ga K "House")) := ⟨cl_House, _, _, [], FS, mt_House_switch, .nil, F_House_switch.bindsN (fun _ _ _ _ _ _ us hl => match us, hl with | [_, _], _ => rfl)⟩
    have ML : ∀ base : Heap, MetX P w K mg base 7 (He.ga K "House") "light" ["self", "across", "up", "setting"] [.non] (spLightH K (He.ga K "House") (He.ga K "BadPlace") (He.ga K "BadSetting")) := fun base => ⟨cl_House, _, _, dsg, FG base, mt_House_light, vg, bg⟩
    have MN : ∀ base : Heap, MetN P w K mg base 7 (He.ga K "House") "light" ["self", "across", "up", "setting"] 3 ["setting"] (spLightH K (He.ga K "House") (He.ga K "BadPlace") (He.ga K "BadSetting")) := fun base => ⟨cl_House, _, _, FG base, mt_House_light, kg⟩
    have OR : ∀ base : Heap, Own P w K mg base 9 "_law_tried" ["_law_act"] (spTried P w K mg base 8 lamQ (He.ga K "NoThing") (He.ga K "NoLook") (He.ga K "Looked") (He.ga K "BadText") (He.ga K "ShadeError") (He.ga K "Missing") (He.ga K "Crowded")) := fun base => own_of F__law_tried m__law_tried (ok_tried (k := 8) (q := lamQ) F__law_tried ct) (fun _ _ _ _ _ _ us hl => match us, hl with | [_], _ => rfl)
    have OL : ∀ base : Heap, Own P w K mg base 10 "_law_all_tried" ["_law_acts"] (spAll P w K mg base 8 lamQ (He.ga K "NoThing") (He.ga K "NoLook") (He.ga K "Looked") (He.ga K "BadText") (He.ga K "ShadeError") (He.ga K "Missing") (He.ga K "Crowded")) := fun base => own_of F__law_all_tried m__law_all_tried (ok_all F__law_all_tried (OR base)) (fun _ _ _ _ _ _ us hl => match us, hl with | [_], _ => rfl)
    have O__law_pull := own_of F__law_pull m__law_pull (ok_pull (P := P) (w := w) (base := base) F__law_pull g_len) (fun _ _ _ _ _ _ us hl => match us, hl with | [_, _], _ => rfl)
    have O__law_bag := own_of F__law_bag m__law_bag (ok_bag (P := P) (w := w) (base := base) F__law_bag g_len g_list) (fun _ _ _ _ _ _ us hl => match us, hl with | [_], _ => rfl)
    have O__law_same := own_of F__law_same m__law_same (ok_same (P := P) (w := w) (base := base) F__law_same m__law_same g_len g_isinstance g_bool g_int g_str g_list g_tuple g_all g_range 4) (fun _ _ _ _ _ _ us hl => match us, hl with | [_, _], _ => rfl)
    have O__law_far := own_of F__law_far m__law_far (ok_far F__law_far O__law_pull) (fun _ _ _ _ _ _ us hl => match us, hl with | [_], _ => rfl)
    have O__law_sum := own_of F__law_sum m__law_sum (ok_sum (P := P) (w := w) (base := base) F__law_sum g_tuple g_range g_sum) (fun _ _ _ _ _ _ us hl => match us, hl with | [_], _ => rfl)
    have O__law_grid := own_of F__law_grid m__law_grid (ok_grid F__law_grid O__law_pull) (fun _ _ _ _ _ _ us hl => match us, hl with | [_], _ => rfl)
    have O__law_spot := own_of F__law_spot m__law_spot (ok_spot F__law_spot O__law_pull) (fun _ _ _ _ _ _ us hl => match us, hl with | [_, _], _ => rfl)
    have O__law_tint := own_of F__law_tint m__law_tint (ok_tint F__law_tint O__law_pull g_range g_tuple) (fun _ _ _ _ _ _ us hl => match us, hl with | [_], _ => rfl)
    refine L2.fn_of lk hcd scLaw (fun vs H Q E h => ?_) (fun A outer s H vs Q E hr h => law_body hr O__law_bag O__law_pull O__law_same O__law_far O__law_sum O__law_grid O__law_spot O__law_tint M_House M_lamp M_lampN M_switch (fun base' _ => ML base') (fun base' _ => MN base') (fun base' _ => OL base') TB g_range ⟨m_WHITE, rfl⟩ hW w_BadPlace w_BadSetting h)
    obtain ⟨a, ns, rfl, _⟩ := h
    rfl
end Hs
open PySem PySem.W PySem.Calls PyProof.Rows
theorem PySem.Challenge.cw_hueshade_k09_lamps_alone_holds : PySem.Challenge.rw_hueshade_k09_lamps_alone.Holds := by
  w_on; o_law
  refine HandSHeadRun.head_any (r := OpenLaw.row PySem.Challenge.rw_hueshade_k09_lamps_alone) (q := view (OpenLaw.row PySem.Challenge.rw_hueshade_k09_lamps_alone).prog [115]) (H := Hs.hk) (ob := Hs.ob) (M := 20000) (loose := Hs.others) (d := HandSHeadRun.topDef (OpenLaw.row PySem.Challenge.rw_hueshade_k09_lamps_alone).prog 115) (kwd := []) Hs.ob_eq
    (by kernel_rfl) (fun s => by kernel_rfl) Hs.run (by kernel_rfl) (by kernel_rfl) (by kernel_rfl) (by rfl) (by first | assumption | decide +kernel) (by decide +kernel) ⟨rfl, rfl, rfl, rfl, rfl, by decide +kernel⟩ ?hw ?hc
  case hw => w_witness2
  case hc =>
    refine LamX.walk_ofTsE (l := PySem.Challenge.rw_hueshade_k09_lamps_alone) (n := 63) (k := 11) (x := "_law_script") (CX := fun _ => L2.CX0) rfl (by decide) (by kernel_rfl) ⟨rfl, by decide, by decide⟩ ?F (fun _ _ _ _ _ z => z)
    intro w mg fa h Y G hmg0
    obtain ⟨K, KX, c⟩ := Y
    have hmg : mg ("law" : PySem.Str) = some (.ref fa) := by
      have e : (HandSHeadRun.topDef (OpenLaw.row PySem.Challenge.rw_hueshade_k09_lamps_alone).prog 115).name = ("law" : PySem.Str) := by kernel_rfl
      rw [← e]
      exact hmg0
    obtain ⟨fd, cc, pt, h1, h2, h3, hb, hF⟩ := Hs.facts (P := (PySem.Challenge.rw_hueshade_k09_lamps_alone).prog) (w := w) (by kernel_rfl) (by kernel_rfl) KX G hmg c
    refine ⟨K, KX, fd, [(cc, pt)], Hs.spLaw K [(pt, Hs.lamQ)], fun p hp => ?_, fun p hp => ?_, fun p hp => ?_, hb, fun H a ns hl _ hT hS => ⟨a, ns, rfl, hS, hl, fun p hp => ?_, fun _ => rfl⟩, fun base _ _ hB => hF base (hB (cc, pt) (List.mem_singleton.mpr rfl))⟩
    · rw [List.mem_singleton.mp hp]
      exact h1
    · rw [List.mem_singleton.mp hp]
      exact h2
    · rw [List.mem_singleton.mp hp]
      exact h3
    · rw [List.mem_singleton.mp hp]
      exact LamX.TabS.nil (hT (cc, pt) (List.mem_singleton.mpr rfl))
