import PyProof.Rows.All
import Wide.All
import OpenK.AllK
import Wide.FinOn
import HandS.ForMost
import HandS.ForExc
import HandS.Wide
import HandS.IsInst
import HandS.Lambda
import HandS.Defaults
import HandS.Evl
import HandS.Codes
import HandS.Style
import HandS.More
import HandS.FStr
import HandS.TryMany
import HandS.ExcField
import HandS.NoneIn
import HandS.ExcInit
import HandS.ExcSuper
import KE.KExcSuper
import KE.DatumOrd
import HandS.Zip
import HandS.Walk
import HandS.Star
import HandS.Flow
import HandS.Nested
import HandS.Head0
import HandS.Head1
import HandS.Head2
import HandS.HeadEnd
import HandS.HeadHook1
import HandS.HeadHook2
import HandS.HeadHook3
import HandS.HeadHook4
import HandS.HeadWalk
import PySem.Challenge.RW_hueshade_k04_whole_figures_moved_and_tur
set_option Elab.async false
set_option linter.all false
set_option maxRecDepth 100000
set_option maxHeartbeats 0
namespace Hs
/-! ### fractions in lowest terms -/
/-- the common part, with the sign of the bottom -/
def sg (a b : Int) : Int := if b < 0 then -(Int.gcd a b : Int) else (Int.gcd a b : Int)
def low (a b : Int) : Int × Int := (a.fdiv (sg a b), b.fdiv (sg a b))
theorem gcd_pos {a b : Int} (h : b ≠ 0) : 0 < Int.gcd a b := Int.gcd_pos_of_ne_zero_right a h
theorem sg_ne {a b : Int} (h : b ≠ 0) : sg a b ≠ 0 := by
  have := gcd_pos (a := a) h
  unfold sg
  split <;> omega
theorem sg_abs {a b : Int} : (sg a b).natAbs = Int.gcd a b := by
  unfold sg
  split <;> omega
theorem sg_dvd_left (a b : Int) : sg a b ∣ a := by
  unfold sg
  split
  · exact Int.neg_dvd.mpr (Int.gcd_dvd_left ..)
  · exact Int.gcd_dvd_left ..
theorem sg_dvd_right (a b : Int) : sg a b ∣ b := by
  unfold sg
  split
  · exact Int.neg_dvd.mpr (Int.gcd_dvd_right ..)
  · exact Int.gcd_dvd_right ..
theorem low_1 (a b : Int) : a = sg a b * (low a b).1 := by
  have h := sg_dvd_left a b
  show a = sg a b * a.fdiv (sg a b)
  rw [Int.fdiv_eq_ediv_of_dvd h, Int.mul_ediv_cancel' h]
theorem low_2 (a b : Int) : b = sg a b * (low a b).2 := by
  have h := sg_dvd_right a b
  show b = sg a b * b.fdiv (sg a b)
  rw [Int.fdiv_eq_ediv_of_dvd h, Int.mul_ediv_cancel' h]
theorem low_of {a b g x y : Int} (h : b ≠ 0) (hg : sg a b = g) (ha : a = g * x) (hb : b = g * y) : low a b = (x, y) := by
  have h1 := low_1 a b
  have h2 := low_2 a b
  have hn : g ≠ 0 := by
    rw [← hg]
    exact sg_ne h
  rw [hg] at h1 h2
  have e1 : (low a b).1 = x := Int.eq_of_mul_eq_mul_left hn (h1.symm.trans ha)
  have e2 : (low a b).2 = y := Int.eq_of_mul_eq_mul_left hn (h2.symm.trans hb)
  rw [← e1, ← e2]
theorem low_pos {a b : Int} (h : b ≠ 0) : 0 < (low a b).2 := by
  have h2 := low_2 a b
  have hp := gcd_pos (a := a) h
  by_cases hb : b < 0
  · have e : sg a b = -(Int.gcd a b : Int) := if_pos hb
    rw [e] at h2
    apply Decidable.byContradiction
    intro hn
    have : 0 ≤ -(Int.gcd a b : Int) * (low a b).2 := by
      have := Int.mul_nonneg_of_nonpos_of_nonpos (a := -(Int.gcd a b : Int)) (b := (low a b).2) (by omega) (by omega)
      exact this
    omega
  · have e : sg a b = (Int.gcd a b : Int) := if_neg hb
    rw [e] at h2
    apply Decidable.byContradiction
    intro hn
    have : (Int.gcd a b : Int) * (low a b).2 ≤ 0 := Int.mul_nonpos_of_nonneg_of_nonpos (by omega) (by omega)
    omega
theorem low_b1 {a b : Int} (h : b ≠ 0) : (low a b).1.natAbs ≤ a.natAbs := by
  have h1 := congrArg Int.natAbs (low_1 a b)
  rw [Int.natAbs_mul, sg_abs] at h1
  rw [h1]
  exact Nat.le_mul_of_pos_left _ (gcd_pos h)
theorem low_b2 {a b : Int} (h : b ≠ 0) : (low a b).2.natAbs ≤ b.natAbs := by
  have h1 := congrArg Int.natAbs (low_2 a b)
  rw [Int.natAbs_mul, sg_abs] at h1
  have h2 := Nat.le_mul_of_pos_left (low a b).2.natAbs (gcd_pos (a := a) h)
  omega
theorem sg_mul {k a b : Int} (hk : k ≠ 0) (h : b ≠ 0) : sg (k * a) (k * b) = k * sg a b := by
  unfold sg
  rw [Int.gcd_mul_left, Int.natCast_mul]
  by_cases h1 : 0 < k
  · have e : (k.natAbs : Int) = k := by omega
    rw [e]
    by_cases h2 : b < 0
    · have : k * b < 0 := Int.mul_neg_of_pos_of_neg h1 h2
      rw [if_pos this, if_pos h2, Int.mul_neg]
    · have : 0 ≤ k * b := Int.mul_nonneg (by omega) (by omega)
      rw [if_neg (by omega), if_neg h2]
  · have e : (k.natAbs : Int) = -k := by omega
    rw [e]
    by_cases h2 : b < 0
    · have : 0 ≤ k * b := Int.mul_nonneg_of_nonpos_of_nonpos (by omega) (by omega)
      rw [if_neg (by omega), if_pos h2, Int.mul_neg, Int.neg_mul]
    · have : k * b < 0 := Int.mul_neg_of_neg_of_pos (by omega) (by omega)
      rw [if_pos this, if_neg h2, Int.neg_mul, Int.neg_neg]
theorem low_scale {k a b : Int} (hk : k ≠ 0) (h : b ≠ 0) : low (k * a) (k * b) = low a b := by
  have hkb : k * b ≠ 0 := Int.mul_ne_zero hk h
  refine low_of hkb (sg_mul hk h) ?_ ?_
  · rw [Int.mul_assoc]
    exact congrArg (k * ·) (low_1 a b)
  · rw [Int.mul_assoc]
    exact congrArg (k * ·) (low_2 a b)
theorem low_one (a : Int) : low a 1 = (a, 1) := by
  have e : sg a 1 = 1 := by
    unfold sg
    rw [if_neg (by decide), Int.gcd_one_right] <;> rfl
  exact low_of (by decide) e (by omega) (by omega)
/-- the middle: the half of a sum in lowest terms -/
theorem low_half {x y : Int} (h : y ≠ 0) : low ((low x y).1 * 1) ((low x y).2 * 2) = low x (2 * y) := by
  have h1 := low_1 x y
  have h2 := low_2 x y
  have hp := low_pos (a := x) h
  have e : low x (2 * y) = low (sg x y * ((low x y).1 * 1)) (sg x y * ((low x y).2 * 2)) := by
    congr 1
    · rw [Int.mul_one]
      exact h1
    · rw [← Int.mul_assoc, ← h2, Int.mul_comm]
  rw [e]
  exact (low_scale (sg_ne h) (by omega)).symm
end Hs
namespace Hs
open PySem PySem.Spec PyProof.Rows L2 Evl
/-! ### own words -/
/-- // by any divisor but nought, below 2 ^ 9000 -/
def CDivG (i j : Int) : Prop := j ≠ 0 ∧ (j.natAbs.log2 < 9000 ∨ i.natAbs.log2 < 13400)
theorem noPylong_x {x y : Int} (h : x.natAbs.log2 < 13400) : Builtin.divisionGoesByPylong x y = false := by
  have key : (if x == 0 then 0 else x.natAbs.log2 / 30 + 1) ≤ 450 := by
    by_cases hx : (x == 0) = true
    · rw [if_pos hx]
      exact Nat.zero_le _
    · rw [if_neg hx]
      omega
  show (decide ((if y == 0 then 0 else y.natAbs.log2 / 30 + 1) > 300) && decide ((if x == 0 then 0 else x.natAbs.log2 / 30 + 1) > (if y == 0 then 0 else y.natAbs.log2 / 30 + 1) + 150)) = false
  generalize (if y == 0 then 0 else y.natAbs.log2 / 30 + 1) = b
  generalize (if x == 0 then 0 else x.natAbs.log2 / 30 + 1) = a at key
  by_cases hb : b > 300
  · rw [decide_eq_false (show ¬ a > b + 150 by omega), Bool.and_false]
  · rw [decide_eq_false hb, Bool.false_and]
theorem op_fdivG {X : Cx} : OpR X (binaryOp .FloorDiv) (rI CDivG fun i j => .int (i.fdiv j)) := opI fun i j _ _ _ _ _ hc q => floordiv_int hc.1 q (.inl (hc.2.elim PyProof.noPylong_of_log2 noPylong_x))
theorem divG {i j : Int} {b : Nat} (h : j ≠ 0) (hb : j.natAbs < 2 ^ b) (h0 : 0 < b) (h9 : b ≤ 9000) : CDivG i j := ⟨h, .inl (Nat.lt_of_lt_of_le (PySem.Flt.log2_lt_of h0 hb) h9)⟩
theorem divX {i j : Int} {b : Nat} (h : j ≠ 0) (hb : i.natAbs < 2 ^ b) (h0 : 0 < b) (h9 : b ≤ 13400) : CDivG i j := ⟨h, .inr (Nat.lt_of_lt_of_le (PySem.Flt.log2_lt_of h0 hb) h9)⟩
theorem mul64 {i j : Int} (ha : i.natAbs < 2 ^ 64) (hb : j.natAbs < 2 ^ 64) : CMulW i j := wide_mul ha hb (by decide) (by decide) (by decide)
theorem modP {i j : Int} (h : 0 < j) : 0 ≤ i.fmod j ∧ i.fmod j < j := by
  rw [Int.fmod_eq_emod_of_nonneg i (Int.le_of_lt h)]
  exact ⟨Int.emod_nonneg i (by omega), Int.emod_lt_of_pos i h⟩
/-- an own def by its promise -/
structure Own (P : Program) (w : World) (K : PySem.W.Frag) (mg : Str → Option Value) (base : Heap) (k : Nat) (x : Str) (ps : List Str) (sp : Sp) : Prop where
  ex : ∃ (f : Addr) (fd : FuncData), FnOk P w K mg base CX0 k f fd ps sp ∧ mg x = some (.ref f) ∧ PySem.W.keepIn K (.ref f) = true ∧ Binds K fd ps []
theorem pe_own {X : Cx} {k j : Nat} {x : Str} {ps : List Str} {sp : Sp} {e : Expr} {es : List Expr} {t : TA} {p pos : Pos} (O : Own X.prog X.w X.K X.mg X.base k x ps sp) (hr : Room j X.A) (hk : k ≤ j) (hg : Gl X x) (ha : PA X (e :: es) t)
    (hdb : (x == ("__debug__" : Str)) = false := by decide) (he : starEach (e :: es) X.env = (false, eval e X.env) :: starEach es X.env := by rfl) (hpl : (backTo pos (starEach es X.env)).any (·.1) = false := by rfl) :
    PE X (.Call (.Name x p) (e :: es) [] pos) (tCall sp [] E0 t) := by
  obtain ⟨f, fd, F, m, kp, b⟩ := O.ex
  exact pe_call F (hr.mono hk) hg m kp b .nil pass0 ha hdb he hpl
abbrev FnP (K : PySem.W.Frag) (x : Str) (st : Stmt) (f : Addr) (fd : FuncData) : Prop := FunD K x x (defArgs st) (defBody st) (defScope st) [] [] f fd
theorem own_of {P : Program} {w : World} {K : PySem.W.Frag} {mg : Str → Option Value} {base : Heap} {k : Nat} {x : Str} {ps : List Str} {sp : Sp} {st : Stmt} {f : Addr} {fd : FuncData} (F : FnP K x st f fd) (m : mg x = some (.ref f)) (G : FnOk P w K mg base CX0 k f fd ps sp)
    (h : ∀ (kV doc pm : Value) (an : Option Addr) (cdv ct : Value) (us : List Value), us.length = ps.length → bindArgs (PySem.W.fnOf x x (defArgs st) (defBody st) (defScope st) .none kV doc pm an cdv ct) ⟨us, []⟩ = pure (ps.zip us)) : Own P w K mg base k x ps sp :=
  ⟨f, fd, G, m, F.kp, F.bindsN h⟩
theorem ev_ix {K : PySem.W.Frag} {σ : L2.St} {H : Hp} {b : Addr} {xs : List V} {i : Int} {v : V} {j : Nat} (hs : σ[j]? = some (some (.ref b))) (hb : H b = some (.lst xs)) (ha : atI xs i = some v) : Ev (tOp (rIxL K) (tVar j) (tC (.int i))) σ H v :=
  ev_op (ev_var hs) ev_c (rv_ixL (sq_of hb) ha)
theorem ev_ixt {K : PySem.W.Frag} {σ : L2.St} {H : Hp} {b : Addr} {xs : List V} {i : Int} {v : V} {j : Nat} (hs : σ[j]? = some (some (.ref b))) (hb : SqT K H b xs) (ha : atI xs i = some v) : Ev (tOp (rIxT K) (tVar j) (tC (.int i))) σ H v :=
  ev_op (ev_var hs) ev_c (rv_ixT hb ha)
theorem ite_T {c : Bool} {A B : Prop} (hc : c = true) (h : A) : if c = true then A else B := by
  rw [if_pos hc]
  exact h
theorem ite_F {c : Bool} {A B : Prop} (hc : c = false) (h : B) : if c = true then A else B := by
  rw [hc, if_neg Bool.false_ne_true]
  exact h
/-! ### the bag that draws -/
structure BagAt (H : Hp) (b l : Addr) (ns : List Int) (n : Nat) : Prop where
  ex : ∃ (i : Nat) (z s : Int) (c : Nat), H b = some (.lst [.ref l, .int i, .int z, .int s, .int c]) ∧ i ≤ ns.length ∧ 0 ≤ s ∧ s < 2147483647 ∧ c ≤ n
  ls : H l = some (.lst (ns.map V.int))
  ne : b ≠ l
/-- all but the object at b stays -/
def But (H H' : Hp) (b : Addr) : Prop := ∀ a o, H a = some o → a ≠ b → H' a = some o
theorem But.refl {H : Hp} {b : Addr} : But H H b := fun _ _ e _ => e
theorem But.trans {H H1 H2 : Hp} {b : Addr} (x : But H H1 b) (y : But H1 H2 b) : But H H2 b := fun a o e n => y a o (x a o e n) n
theorem But.ex {H H1 H2 : Hp} {b : Addr} (x : But H H1 b) (y : Ex H1 H2) : But H H2 b := fun a o e n => y a o (x a o e n)
theorem But.of {H H1 : Hp} {b : Addr} (y : Ex H H1) : But H H1 b := fun a o e _ => y a o e
theorem But.upd {H H1 : Hp} {b : Addr} {u : HO} (x : But H H1 b) : But H (upd H1 b u) b := fun a o e n => by
  rw [upd_ne n]
  exact x a o e n
theorem BagAt.ext {H H1 : Hp} {b l : Addr} {ns : List Int} {n m : Nat} (B : BagAt H b l ns n) (e : Ex H H1) (h : n ≤ m) : BagAt H1 b l ns m := by
  obtain ⟨⟨i, z, s, c, h1, h2, h3, h4, h5⟩, h6, h7⟩ := B
  exact ⟨⟨i, z, s, c, e _ _ h1, h2, h3, h4, Nat.le_trans h5 h⟩, e _ _ h6, h7⟩
def spPull : Sp := fun vs H Q _ => ∃ (b l : Addr) (ns : List Int) (n : Nat) (many : Int), vs = [.ref b, .int many] ∧ BagAt H b l ns n ∧ n < 1000000 ∧ 0 < many ∧ many < 2 ^ 200 ∧
  ∀ (v : Int) (H' : Hp), 0 ≤ v → v < many → BagAt H' b l ns (n + 1) → But H H' b → Q (.int v) H'
def spBag (K : PySem.W.Frag) : Sp := fun vs H Q _ => ∃ (a : Addr) (ns : List Int), vs = [.ref a] ∧ SqL K H a (ns.map V.int) ∧ ns.length ≤ 63 ∧
  ∀ (b l : Addr) (H' : Hp), H b = none → H l = none → BagAt H' b l ns 0 → Ex H H' → Q (.ref b) H'
end Hs
namespace Hs
open PySem
def top (i : Nat) : Stmt := PySem.Challenge.pw_hueshade_k04_whole_figures_moved_and_tur.main.body.getD i (.Pass ⟨0, 0, 0, 0⟩)
end Hs
namespace Hs
open PySem PySem.Spec PyProof.Rows L2 Evl
section
variable {P : Program} {w : World} {K : PySem.W.Frag} {mg : Str → Option Value} {base : Heap} {f : Addr} {fd : FuncData}
abbrev sPull : Stmt := top 28
theorem scPull : FnScope ["_law_bag_here", "_law_many", "_law_cell", "_law_got", "_law_wider"] ["_law_bag_here", "_law_many"] (defScope sPull) := ⟨rfl, rfl, rfl, by decide +kernel, rfl, by decide +kernel, by decide +kernel⟩
theorem ok_pull (F : FnP K "_law_pull" sPull f fd) (g_len : mg "len" = none) : FnOk P w K mg base CX0 1 f fd ["_law_bag_here", "_law_many"] spPull := by
  have nd := scPull.nd
  refine F.ok scPull (fun vs H Q E h => ?_) (fun cdv A outer s H vs Q E hr h => ⟨_, PSs.nox (Evl.pss_cut (ps_if (PW.pt (pw_and (pt_cmpR op_eq (pe_ix (r := rIxL K) ix_list (pv 0) pe_int (fun _ _ => rfl)) pe_int (nomark _)) (pw_and1 (pt_cmpR op_lt (pe_ix (r := rIxL K) ix_list (pv 0) pe_int (fun _ _ => rfl)) (pe_callB (r := Evl.rLenS K) call_len_seq (by rfl) g_len PySem.boot_len (pa_cons (pe_ix (r := rIxL K) ix_list (pv 0) pe_int (fun _ _ => rfl)) pa_nil)) (nomark _))))) (pss_cons (ps_set (i := 2) nd rfl (.inl rfl) (pe_ix (r := rIxL K) ix_list (pe_ix (r := rIxL K) ix_list (pv 0) pe_int (fun _ _ => rfl)) (pe_ix (r := rIxL K) ix_list (pv 0) pe_int (fun _ _ => rfl)) (fun _ _ => rfl)))
  (pss_cons (ps_asg (pe_op op_add (pe_ix (r := rIxL K) ix_list (pv 0) pe_int (fun _ _ => rfl)) pe_int) (pg_sub (pv 0) pe_int set_list))
  (pss_one (ps_if (pt_cmpR op_ge (pv 2) (pe_op op_pow pe_int pe_int) (nomark _)) (pss_one (ps_asg (pv 2) (pg_sub (pv 0) pe_int set_list))) (pss_one (ps_asg (pe_op op_modN (pe_op op_add (pe_op op_add (pe_op op_mulW (pe_ix (r := rIxL K) ix_list (pv 0) pe_int (fun _ _ => rfl)) pe_int) (pe_op op_modN (pv 2) pe_int)) pe_int) pe_int) (pg_sub (pv 0) pe_int set_list))))))) pss_nil)
  (pss_cons (ps_if (pt_cmpR op_gt (pe_ix (r := rIxL K) ix_list (pv 0) pe_int (fun _ _ => rfl)) pe_int (nomark _)) (pss_cons (ps_set (i := 3) nd rfl (.inl rfl) (pe_op op_modN (pe_ix (r := rIxL K) ix_list (pv 0) pe_int (fun _ _ => rfl)) (pv 1)))
  (pss_cons (ps_asg (pe_op Hs.op_fdivG (pe_ix (r := rIxL K) ix_list (pv 0) pe_int (fun _ _ => rfl)) (pv 1)) (pg_sub (pv 0) pe_int set_list))
  (pss_one (ps_ret (pv 3))))) pss_nil)
  (pss_cons (ps_asg (pe_op op_add (pe_ix (r := rIxL K) ix_list (pv 0) pe_int (fun _ _ => rfl)) pe_int) (pg_sub (pv 0) pe_int set_list))
  (pss_cons (ps_set (i := 4) nd rfl (.inl rfl) (pe_op op_add (pe_op op_mulW (pe_ix (r := rIxL K) ix_list (pv 0) pe_int (fun _ _ => rfl)) (pe_ix (r := rIxL K) ix_list (pv 0) pe_int (fun _ _ => rfl))) (pe_op op_mulW (pe_op op_mulW pe_int (pe_ix (r := rIxL K) ix_list (pv 0) pe_int (fun _ _ => rfl))) (pe_op op_add (pe_op op_modN (pe_ix (r := rIxL K) ix_list (pv 0) pe_int (fun _ _ => rfl)) pe_int) pe_int))))
  (pss_cons (ps_asg (pe_op op_modN (pe_op op_add (pe_op op_add (pv 4) (pe_op op_mulW (pe_op op_mulW (pe_ix (r := rIxL K) ix_list (pv 0) pe_int (fun _ _ => rfl)) (pe_ix (r := rIxL K) ix_list (pv 0) pe_int (fun _ _ => rfl))) (pe_ix (r := rIxL K) ix_list (pv 0) pe_int (fun _ _ => rfl)))) pe_int) pe_int) (pg_sub (pv 0) pe_int set_list))
  (pss_one (ps_ret (pe_op op_modN (pe_op op_add (pe_op Hs.op_fdivG (pe_ix (r := rIxL K) ix_list (pv 0) pe_int (fun _ _ => rfl)) pe_int) (pe_op op_mulW (pe_op op_modN (pe_ix (r := rIxL K) ix_list (pv 0) pe_int (fun _ _ => rfl)) pe_int) pe_int)) (pv 1))))))))), ?_⟩)
  · obtain ⟨b, l, ns, n, many, rfl, _⟩ := h
    rfl
  · obtain ⟨b, l, ns, n, many, rfl, B, hn, hm, hm2, k⟩ := h
    obtain ⟨⟨i, z, s0, c, hb, hi, h0, h1, hc⟩, hl, ne⟩ := B
    refine q_cut (M := fun σ' H' => ∃ v2, σ' = [some (.ref b), some (.int many), v2, none, none] ∧ H' l = some (.lst (ns.map V.int)) ∧ But H H' b ∧ ∃ (i : Nat) (z s : Int), H' b = some (.lst [.ref l, .int i, .int z, .int s, .int c]) ∧ i ≤ ns.length ∧ 0 ≤ s ∧ s < 2147483647) ?_ ?_
    · refine s_when (et_and (et_test (ev_op (ev_ix rfl hb rfl) ev_c (rv_eq rfl))) fun _ => et_test (ev_op (ev_ix rfl hb rfl) (ev_len (ev_ix rfl hb rfl) (sq_of hl)) rv_I0)) (fun ht H1 e1 => ?_) (fun ht H1 e1 => ?_)
      · have hlt : (i : Int) < ((ns.map V.int).length : Int) := by
          rw [Bool.and_eq_true] at ht
          exact of_decide_eq_true ht.2
        rw [List.length_map] at hlt
        have hit : i < ns.length := by omega
        have hg : (ns.map V.int)[i]? = some (V.int ns[i]) := by
          rw [List.getElem?_map, List.getElem?_eq_getElem hit] <;> rfl
        refine q_asg (ev_op (ev_ix rfl (e1 _ _ hb) rfl) (ev_ix rfl (e1 _ _ hb) rfl) (rv_ixL (sq_of (e1 _ _ hl)) (atI_nat hg))) fun H2 e2 => ?_
        have e12 := e1.trans e2
        refine q_setL (j := 1) (e12 _ _ hb) (ev_op (ev_ix rfl (e12 _ _ hb) rfl) ev_c rv_I0) (ev_var rfl) ev_c (by simp) fun H3 e3 => ?_
        have hb3 : (upd H3 b (.lst [.ref l, .int ((i : Int) + 1), .int z, .int s0, .int c])) b = some (.lst [.ref l, .int ((i + 1 : Nat) : Int), .int z, .int s0, .int c]) := upd_same
        have hl3 : (upd H3 b (.lst [.ref l, .int ((i : Int) + 1), .int z, .int s0, .int c])) l = some (.lst (ns.map V.int)) := by
          rw [upd_ne (Ne.symm ne)]
          exact (e12.trans e3) _ _ hl
        have bt3 : But H (upd H3 b (.lst [.ref l, .int ((i : Int) + 1), .int z, .int s0, .int c])) b := But.upd (.of (e12.trans e3))
        refine s_if (et_test (ev_op (ev_var rfl) (ev_op ev_c ev_c (rv_I ⟨by decide, by decide, by decide⟩)) rv_I0)) (fun ht2 H4 e4 => ?_) (fun ht2 H4 e4 => ?_)
        · refine s_setL (j := 2) (e4 _ _ hb3) (ev_var rfl) (ev_var rfl) ev_c (by simp) fun H5 e5 => ?_
          refine ⟨_, rfl, ?_, But.upd ((bt3.ex e4).ex e5), i + 1, ns[i], s0, upd_same, hit, h0, h1⟩
          rw [upd_ne (Ne.symm ne)]
          exact (e4.trans e5) _ _ hl3
        · refine s_setL (j := 3) (e4 _ _ hb3) (ev_op (ev_op (ev_op (ev_op (ev_ix rfl (e4 _ _ hb3) rfl) ev_c (rv_I (mul64 (by omega) (by decide)))) (ev_op (ev_var rfl) ev_c (rv_I (show (2147483563 : Int) ≠ 0 by decide))) rv_I0) ev_c rv_I0) ev_c (rv_I (show (2147483629 : Int) ≠ 0 by decide))) (ev_var rfl) ev_c (by simp) fun H5 e5 => ?_
          have hp := modP (i := s0 * 40503 + (ns[i]).fmod 2147483563 + 1) (j := 2147483629) (by decide)
          refine ⟨_, rfl, ?_, But.upd ((bt3.ex e4).ex e5), i + 1, z, _, upd_same, hit, hp.1, by omega⟩
          rw [upd_ne (Ne.symm ne)]
          exact (e4.trans e5) _ _ hl3
      · exact ⟨none, rfl, e1 _ _ hl, .of e1, i, z, s0, e1 _ _ hb, hi, h0, h1⟩
    · rintro σ' H1 ⟨v2, rfl, hl1, bt1, i, z, s0, hb1, hi, h0, h1⟩
      refine q_when (et_test (ev_op (ev_ix rfl hb1 rfl) ev_c rv_I0)) (fun ht H2 e2 => ?_) (fun ht H2 e2 => ?_)
      · refine q_asg (ev_op (ev_ix rfl (e2 _ _ hb1) rfl) (ev_var rfl) (rv_I (show many ≠ 0 by omega))) fun H3 e3 => ?_
        have e23 := e2.trans e3
        refine q_setL (j := 2) (e23 _ _ hb1) (ev_op (ev_ix rfl (e23 _ _ hb1) rfl) (ev_var rfl) (rv_I (divG (b := 200) (by omega) (by omega) (by decide) (by decide)))) (ev_var rfl) ev_c (by simp) fun H4 e4 => ?_
        have hp := modP (i := z) (j := many) hm
        refine s_ret (ev_var rfl) fun H5 e5 => k _ _ hp.1 hp.2 ?_ ((But.upd (bt1.ex (e23.trans e4))).ex e5)
        refine BagAt.ext (n := n + 1) ⟨⟨i, _, s0, c, upd_same, hi, h0, h1, by omega⟩, ?_, ne⟩ e5 (Nat.le_refl _)
        rw [upd_ne (Ne.symm ne)]
        exact (e23.trans e4) _ _ hl1
      · refine q_setL (j := 4) (e2 _ _ hb1) (ev_op (ev_ix rfl (e2 _ _ hb1) rfl) ev_c rv_I0) (ev_var rfl) ev_c (by simp) fun H3 e3 => ?_
        have hb3 : (upd H3 b (.lst [.ref l, .int i, .int z, .int s0, .int ((c : Int) + 1)])) b = some (.lst [.ref l, .int i, .int z, .int s0, .int ((c : Int) + 1)]) := upd_same
        have hl3 : (upd H3 b (.lst [.ref l, .int i, .int z, .int s0, .int ((c : Int) + 1)])) l = some (.lst (ns.map V.int)) := by
          rw [upd_ne (Ne.symm ne)]
          exact (e2.trans e3) _ _ hl1
        have bt3 : But H (upd H3 b (.lst [.ref l, .int i, .int z, .int s0, .int ((c : Int) + 1)])) b := But.upd (bt1.ex (e2.trans e3))
        have hp1 := modP (i := s0) (j := 8191) (by decide)
        refine q_asg (ev_op (ev_op (ev_ix rfl hb3 rfl) (ev_ix rfl hb3 rfl) (rv_I (mul64 (by omega) (by omega)))) (ev_op (ev_op ev_c (ev_ix rfl hb3 rfl) (rv_I (mul64 (by decide) (by omega)))) (ev_op (ev_op (ev_ix rfl hb3 rfl) ev_c (rv_I (show (8191 : Int) ≠ 0 by decide))) ev_c rv_I0) (rv_I (mul64 (by omega) (by omega)))) rv_I0) fun H4 e4 => ?_
        have hcc : ((c : Int) + 1) * ((c : Int) + 1) ≤ 1000000 * 1000000 := Int.mul_le_mul (by omega) (by omega) (by omega) (by decide)
        have hcd : 0 ≤ ((c : Int) + 1) * ((c : Int) + 1) := Int.mul_nonneg (by omega) (by omega)
        refine q_setL (j := 3) (e4 _ _ hb3) (ev_op (ev_op (ev_op (ev_var rfl) (ev_op (ev_op (ev_ix rfl (e4 _ _ hb3) rfl) (ev_ix rfl (e4 _ _ hb3) rfl) (rv_I (mul64 (by omega) (by omega)))) (ev_ix rfl (e4 _ _ hb3) rfl) (rv_I (mul64 (by omega) (by omega)))) rv_I0) ev_c rv_I0) ev_c (rv_I (show (2147483629 : Int) ≠ 0 by decide))) (ev_var rfl) ev_c (by simp) fun H5 e5 => ?_
        generalize hs' : Int.fmod _ 2147483629 = s1
        have hs1 : 0 ≤ s1 ∧ s1 < 2147483629 := by
          rw [← hs']
          exact modP (by decide)
        have hp2 := modP (i := s1) (j := 7919) (by decide)
        refine s_ret (ev_op (ev_op (ev_op (ev_ix rfl upd_same rfl) ev_c (rv_I (divG (b := 64) (by decide) (by decide) (by decide) (by decide)))) (ev_op (ev_op (ev_ix rfl upd_same rfl) ev_c (rv_I (show (7919 : Int) ≠ 0 by decide))) ev_c (rv_I (mul64 (by omega) (by decide)))) rv_I0) (ev_var rfl) (rv_I (show many ≠ 0 by omega))) fun H6 e6 => ?_
        have hp := modP (i := s1.fdiv 71 + s1.fmod 7919 * 37) (j := many) hm
        refine k _ _ hp.1 hp.2 ?_ ((But.upd (bt3.ex (e4.trans e5))).ex e6)
        refine BagAt.ext (n := n + 1) ⟨⟨i, z, s1, c + 1, upd_same, hi, hs1.1, by omega, by omega⟩, ?_, ne⟩ e6 (Nat.le_refl _)
        rw [upd_ne (Ne.symm ne)]
        exact (e4.trans e5) _ _ hl3
end
end Hs
namespace Hs
open PySem PySem.Spec PyProof.Rows L2 Evl
theorem cut63 {xs : List V} (h : xs.length ≤ 63) : cutV xs none (some 63) = xs := by
  have e1 : HT.sIx xs.length 0 none = 0 := rfl
  have e2 : HT.sIx xs.length xs.length (some 63) = xs.length := by
    show min (63 : Int).toNat xs.length = xs.length
    omega
  unfold cutV
  rw [e1, e2, List.drop_zero, Nat.sub_zero, List.take_length]
section
variable {P : Program} {w : World} {K : PySem.W.Frag} {mg : Str → Option Value} {base : Heap} {f : Addr} {fd : FuncData}
abbrev sBag : Stmt := top 27
theorem scBag : FnScope ["_law_script", "_law_salt", "_law_cell"] ["_law_script"] (defScope sBag) := ⟨rfl, rfl, rfl, by decide +kernel, rfl, by decide +kernel, by decide +kernel⟩
theorem ok_bag (F : FnP K "_law_bag" sBag f fd) (g_len : mg "len" = none) (g_list : mg "list" = none) : FnOk P w K mg base CX0 1 f fd ["_law_script"] (spBag K) := by
  have nd := scBag.nd
  refine F.ok scBag (fun vs H Q E h => ?_) (fun cdv A outer s H vs Q E hr h => ⟨_, PSs.nox (pss_cons (ps_set (i := 1) nd rfl (.inl rfl) (pe_op op_add pe_int (pe_callB (r := Evl.rLenS K) call_len_seq (by rfl) g_len PySem.boot_len (pa_cons (pe_slice sl_list (pv 0) po_none (po_some pe_int)) pa_nil))))
  (pss_cons (ps_for PassesOwn.never rfl (pi_list (pe_slice sl_list (pv 0) po_none (po_some pe_int))) (pg_name (i := 2) nd rfl (.inl rfl)) (pss_one (ps_set (i := 1) nd rfl (.inl rfl) (pe_op op_modN (pe_op op_add (pe_op op_add (pe_op op_mulW (pv 1) pe_int) (pe_op op_modN (pv 2) pe_int)) pe_int) pe_int))))
  (pss_one (ps_ret (pe_lst (pa_cons (pe_callTy (r := Evl.rListS K) call_list_of (by rfl) g_list (by decide +kernel) (pa_cons (pe_slice sl_list (pv 0) po_none (po_some pe_int)) pa_nil)) (pa_cons pe_int (pa_cons pe_int (pa_cons (pv 1) (pa_cons pe_int pa_nil)))))))))), ?_⟩)
  · obtain ⟨a, ns, rfl, _⟩ := h
    rfl
  · obtain ⟨a, ns, rfl, hS, hl, k⟩ := h
    have hl2 : (ns.map V.int).length ≤ 63 := by rw [List.length_map]; exact hl
    have sl : ∀ {σ : L2.St} {H' : Hp}, σ[0]? = some (some (.ref a)) → Ex H H' → EvL (tSl (rSlL K) (tVar 0) tNoPart (tPart (tC (.int 63)))) σ H' (ns.map V.int) := fun {σ H'} h0 e => by
      have q := el_sl (K := K) (σ := σ) (H := H') (ev_var h0) eo_none (eo_some (i := 63) ev_c) (ex_l e hS)
      rw [cut63 hl2] at q
      exact q
    refine q_asg (ev_op ev_c (ev_lenN (sl rfl (Ex.refl H))) rv_I0) fun H1 e1 => ?_
    refine q_forNLn (sl rfl e1) (fun p i σ' H' => Ex H H' ∧ H' p = some (.lst (ns.map V.int)) ∧ ∃ (s0 : Int) (v : Option V), σ' = [some (.ref a), some (.int s0), v] ∧ 0 ≤ s0 ∧ s0 < 2147483647) ?_ ?_ ?_ ?_
    · intro p H2 hp e2 h2
      exact ⟨e1.trans e2, h2, _, none, rfl, by omega, by omega⟩
    · rintro p i σ' H' hi ⟨_, h, _⟩
      exact sq_of h
    · rintro p i x σ' H' hx ⟨e, h, s0, v, rfl, h0, h1⟩
      obtain ⟨z, rfl⟩ : ∃ z, x = V.int z := by
        rw [List.getElem?_map] at hx
        cases ez : ns[i]? with
        | none =>
          rw [ez] at hx
          cases hx
        | some z =>
          rw [ez] at hx
          exact ⟨z, (Option.some.inj hx).symm⟩
      refine s_asg (ev_op (ev_op (ev_op (ev_op (ev_var rfl) ev_c (rv_I (mul64 (by omega) (by decide)))) (ev_op (ev_var rfl) ev_c (rv_I (show (2147483629 : Int) ≠ 0 by decide))) rv_I0) ev_c rv_I0) ev_c (rv_I (show (2147483647 : Int) ≠ 0 by decide))) fun H2 e2 => ?_
      have hp := modP (i := s0 * 48271 + z.fmod 2147483629 + 7) (j := 2147483647) (by decide)
      exact ⟨e.trans e2, e2 _ _ h, _, _, rfl, hp.1, hp.2⟩
    · rintro p σ' H' ⟨e, h, s0, v, rfl, h0, h1⟩
      refine sl (σ := [some (.ref a), some (.int s0), v]) rfl e H' (Ex.refl _) _ fun q H2 hq e2 h2 => ⟨q, _, rfl, .inl (sq_of h2), fun l hl3 => ⟨_, rfl, sz_of (by simp), fun b hb3 => ?_⟩⟩
      have hne : l ≠ b := fun z => by
        rw [← z, upd_same] at hb3
        cases hb3
      have e3 : Ex H (upd H2 l (.lst (ns.map V.int))) := (e.trans e2).trans (Ex.new hl3)
      refine k b l _ (fresh_back e3 hb3) (fresh_back (e.trans e2) hl3) ⟨⟨0, 0, s0, 0, upd_same, Nat.zero_le _, h0, h1, Nat.le_refl _⟩, ?_, Ne.symm hne⟩ (e3.trans (Ex.new hb3))
      rw [upd_ne hne, upd_same]
end
end Hs
namespace Hs
open PySem PySem.Spec PyProof.Rows L2 Evl
/-! ### two data alike: the law's own comparison -/
def Sm (K : PySem.W.Frag) (H : Hp) : Nat → V → V → Prop
  | 0, _, _ => False
  | d + 1, u, v => (u = v ∧ flatV u = true) ∨ ∃ (a b : Addr) (xs ys : List V), u = .ref a ∧ v = .ref b ∧ ((SqL K H a xs ∧ SqL K H b ys) ∨ (SqT K H a xs ∧ SqT K H b ys)) ∧ xs.length = ys.length ∧ xs.length ≤ 1000 ∧
      ∀ (i : Nat) (x y : V), xs[i]? = some x → ys[i]? = some y → Sm K H d x y
theorem Sm.ext {K : PySem.W.Frag} {H H' : Hp} (e : Ex H H') : ∀ {d : Nat} {u v : V}, Sm K H d u v → Sm K H' d u v
  | 0, _, _, h => h.elim
  | d + 1, u, v, h => by
    rcases h with h | ⟨a, b, xs, ys, h1, h2, h3, h4, h5, h6⟩
    · exact .inl h
    · refine .inr ⟨a, b, xs, ys, h1, h2, ?_, h4, h5, fun i x y hx hy => Sm.ext e (h6 i x y hx hy)⟩
      rcases h3 with ⟨p, q⟩ | ⟨p, q⟩
      · exact .inl ⟨ex_l e p, ex_l e q⟩
      · exact .inr ⟨ex_t e p, ex_t e q⟩
def spSame (K : PySem.W.Frag) (d : Nat) : Sp := fun vs H Q _ => ∃ u v : V, vs = [u, v] ∧ Sm K H d u v ∧ RetV (.bl true) H Q
/-- of the built-in type t, whatever is new -/
def Ty (K : PySem.W.Frag) (H : Hp) (x : V) (t : String) : Prop := ∀ H1, Ex H H1 → TyX K H1 x (.type t)
theorem ty_l {K : PySem.W.Frag} {H : Hp} {a : Addr} {xs : List V} (h : SqL K H a xs) : Ty K H (.ref a) "list" := fun H1 e => by
  rcases ex_l e h with (h | ⟨o, h⟩) | ⟨o, its, n, h1, h2, _⟩
  · exact .base (.lst h)
  · exact .base (.frz h)
  · exact .kList h1 h2
theorem ty_t {K : PySem.W.Frag} {H : Hp} {a : Addr} {xs : List V} (h : SqT K H a xs) : Ty K H (.ref a) "tuple" := fun H1 e => by
  rcases ex_t e h with (h | ⟨o, h⟩) | ⟨o, its, n, h1, h2, _⟩
  · exact .base (.tup h)
  · exact .fTuple h
  · exact .kTuple h1 h2
theorem ty_bl {K : PySem.W.Frag} {H : Hp} {b : Bool} : Ty K H (.bl b) "bool" := fun _ _ => .base (.bl b)
theorem ty_int {K : PySem.W.Frag} {H : Hp} {b : Int} : Ty K H (.int b) "int" := fun _ _ => .base (.int b)
theorem ty_str {K : PySem.W.Frag} {H : Hp} {b : Str} : Ty K H (.str b) "str" := fun _ _ => .base (.str b)
theorem ev_isi {K : PySem.W.Frag} {σ : L2.St} {H : Hp} {te : TE} {x : V} {t c : String} {b : Bool} (h : Ev te σ H x) (ht : Ty K H x t) (hk : kitB t c = some b) : Ev (tCB (rIsi K) (tCons te (tCons (tC (.ty c)) tNil))) σ H (.bl b) := fun H1 e Q q =>
  h H1 e _ fun H2 e2 => ⟨x, .ty c, .type t, .type c, b, rfl, .ty c, ht H2 (e.trans e2), kit_ty hk, q H2 e2⟩
theorem ev_isi2 {K : PySem.W.Frag} {σ : L2.St} {H : Hp} {te : TE} {x : V} {t c c' : String} {b b' : Bool} (h : Ev te σ H x) (ht : Ty K H x t) (hk : kitB t c = some b) (hk' : kitB t c' = some b') :
    Ev (tCB (rIsiT K) (tCons te (tCons (tTup (tCons (tC (.ty c)) (tCons (tC (.ty c')) tNil))) tNil))) σ H (.bl (b || b')) := fun H1 e Q q =>
  h H1 e _ fun H2 e2 => ⟨sz_of (by simp), fun p hp => ⟨x, p, [.ty c, .ty c'], .type t, [.type c, .type c'], b || b', rfl, upd_same, .cons (.ty c) (.cons (.ty c') .nil), ht _ ((e.trans e2).trans (Ex.new hp)), by
    refine kitAny_cons (kit_ty hk) (fun hb => ?_) (fun hb => by rw [hb] <;> rfl)
    rw [hb, Bool.false_or]
    exact kitAny_cons (kit_ty hk') (fun hb' => by rw [hb']; exact kitAny_nil) (fun hb' => hb'), q _ (e2.trans (Ex.new hp))⟩⟩
theorem rv_ixQ {K : PySem.W.Frag} {H : Hp} {p : Addr} {xs : List V} {i : Int} {v : V} (h : SqL K H p xs ∨ SqT K H p xs) (ha : atI xs i = some v) : RV (rIx K) (.ref p) (.int i) H v := fun H1 e Q q => by
  rcases h with h | h
  · exact .inl (rv_ixL h ha H1 e Q q)
  · exact .inr (.inl (rv_ixT h ha H1 e Q q))
theorem ev_lenQ {K : PySem.W.Frag} {σ : L2.St} {H : Hp} {ta : TE} {p : Addr} {xs : List V} (ha : Ev ta σ H (.ref p)) (h : SqL K H p xs ∨ SqT K H p xs) : Ev (tCB (rLenS K) (tCons ta tNil)) σ H (.int (xs.length : Int)) := fun H1 e Q q =>
  ha H1 e _ fun H2 e2 => ⟨p, xs, rfl, h.imp (fun h => ex_l (e.trans e2) h) (fun h => ex_t (e.trans e2) h), q H2 e2⟩
theorem given_true (n : Nat) : given n (fun _ => true) (fun _ => V.bl true) = (List.replicate n true).map V.bl := by
  induction n with
  | zero => rfl
  | succ n ih =>
    rw [given_yes rfl, ih, List.replicate_succ', List.map_append] <;> rfl
theorem ev_allT {K : PySem.W.Frag} {σ : L2.St} {H : Hp} {te : TE} {n : Nat} (h : EvL te σ H (given n (fun _ => true) (fun _ => V.bl true))) : Ev (tCB (rAll K) (tCons te tNil)) σ H (.bl true) := fun H1 e Q q =>
  h H1 e _ fun p H2 _ e2 h2 => ⟨p, List.replicate n true, rfl, sq_of (by rw [h2, given_true]), by
    have e3 : (List.replicate n true).all id = true := by simp
    rw [e3]
    exact q H2 e2⟩
theorem kb_bool_bool : kitB "bool" "bool" = some true := by decide +kernel
theorem kb_bool_int : kitB "bool" "int" = some true := by decide +kernel
theorem kb_bool_str : kitB "bool" "str" = some false := by decide +kernel
theorem kb_bool_list : kitB "bool" "list" = some false := by decide +kernel
theorem kb_bool_tuple : kitB "bool" "tuple" = some false := by decide +kernel
theorem kb_int_bool : kitB "int" "bool" = some false := by decide +kernel
theorem kb_int_int : kitB "int" "int" = some true := by decide +kernel
theorem kb_int_str : kitB "int" "str" = some false := by decide +kernel
theorem kb_int_list : kitB "int" "list" = some false := by decide +kernel
theorem kb_int_tuple : kitB "int" "tuple" = some false := by decide +kernel
theorem kb_str_bool : kitB "str" "bool" = some false := by decide +kernel
theorem kb_str_int : kitB "str" "int" = some false := by decide +kernel
theorem kb_str_str : kitB "str" "str" = some true := by decide +kernel
theorem kb_str_list : kitB "str" "list" = some false := by decide +kernel
theorem kb_str_tuple : kitB "str" "tuple" = some false := by decide +kernel
theorem kb_list_bool : kitB "list" "bool" = some false := by decide +kernel
theorem kb_list_int : kitB "list" "int" = some false := by decide +kernel
theorem kb_list_str : kitB "list" "str" = some false := by decide +kernel
theorem kb_list_list : kitB "list" "list" = some true := by decide +kernel
theorem kb_list_tuple : kitB "list" "tuple" = some false := by decide +kernel
theorem kb_tuple_bool : kitB "tuple" "bool" = some false := by decide +kernel
theorem kb_tuple_int : kitB "tuple" "int" = some false := by decide +kernel
theorem kb_tuple_str : kitB "tuple" "str" = some false := by decide +kernel
theorem kb_tuple_list : kitB "tuple" "list" = some false := by decide +kernel
theorem kb_tuple_tuple : kitB "tuple" "tuple" = some true := by decide +kernel
section
variable {P : Program} {w : World} {K : PySem.W.Frag} {mg : Str → Option Value} {base : Heap} {f : Addr} {fd : FuncData}
abbrev sSame : Stmt := top 30
theorem scSame : FnScope ["_law_got", "_law_due", "_law_k"] ["_law_got", "_law_due"] (defScope sSame) := ⟨rfl, rfl, rfl, by decide +kernel, rfl, by decide +kernel, by decide +kernel⟩
theorem ok_same (F : FnP K "_law_same" sSame f fd) (m : mg "_law_same" = some (.ref f)) (g_len : mg "len" = none) (g_isinstance : mg "isinstance" = none) (g_bool : mg "bool" = none) (g_int : mg "int" = none) (g_str : mg "str" = none) (g_list : mg "list" = none) (g_tuple : mg "tuple" = none)
    (g_all : mg "all" = none) (g_range : mg "range" = none) : ∀ d, FnOk P w K mg base CX0 d f fd ["_law_got", "_law_due"] (spSame K d)
  | 0 => ⟨fun _ _ _ _ h => by
      obtain ⟨u, v, _, h, _⟩ := h
      exact h.elim, fun _ _ _ _ _ _ _ _ _ _ _ _ _ h => by
      obtain ⟨u, v, _, h, _⟩ := h
      exact h.elim⟩
  | d + 1 => by
    have O__law_same : Own P w K mg base d "_law_same" ["_law_got", "_law_due"] (spSame K d) := own_of F m (ok_same F m g_len g_isinstance g_bool g_int g_str g_list g_tuple g_all g_range d) fun _ _ _ _ _ _ us hl => match us, hl with | [_, _], _ => rfl
    have nd := scSame.nd
    refine F.ok scSame (fun vs H Q E h => ?_) (fun cdv A outer s H vs Q E hr h => ⟨_, PSs.nox (pss_cons (ps_if (PW.pt (pw_or (pt_cmpR op_isN (pv 1) pe_non (nomark _)) (pw_or1 (pt_cmpR op_isN (pv 0) pe_non (nomark _))))) (pss_one (ps_ret (pe_and (pe_cmpR op_isN (pv 1) pe_non (nomark _)) (pe_one (pe_cmpR op_isN (pv 0) pe_non (nomark _)))))) pss_nil)
  (pss_cons (ps_if (PW.pt (pw_or (pt_val (pe_callB (r := rIsi K) call_isi (by rfl) g_isinstance (by decide +kernel) (pa_cons (pv 1) (pa_cons (pe_bltn (v := .ty "bool") (by rfl) g_bool (by decide +kernel) rfl) pa_nil)))) (pw_or1 (pt_val (pe_callB (r := rIsi K) call_isi (by rfl) g_isinstance (by decide +kernel) (pa_cons (pv 0) (pa_cons (pe_bltn (v := .ty "bool") (by rfl) g_bool (by decide +kernel) rfl) pa_nil))))))) (pss_one (ps_ret (pe_and (pe_callB (r := rIsi K) call_isi (by rfl) g_isinstance (by decide +kernel) (pa_cons (pv 1) (pa_cons (pe_bltn (v := .ty "bool") (by rfl) g_bool (by decide +kernel) rfl) pa_nil))) (pe_and (pe_callB (r := rIsi K) call_isi (by rfl) g_isinstance (by decide +kernel) (pa_cons (pv 0) (pa_cons (pe_bltn (v := .ty "bool") (by rfl) g_bool (by decide +kernel) rfl) pa_nil))) (pe_one (pe_cmpR op_eq (pv 0) (pv 1) (nomark _))))))) pss_nil)
  (pss_cons (ps_if (pt_val (pe_callB (r := rIsiT K) call_isiT (by rfl) g_isinstance (by decide +kernel) (pa_cons (pv 1) (pa_cons (pe_tup (pa_cons (pe_bltn (v := .ty "int") (by rfl) g_int (by decide +kernel) rfl) (pa_cons (pe_bltn (v := .ty "str") (by rfl) g_str (by decide +kernel) rfl) pa_nil))) pa_nil)))) (pss_one (ps_ret (pe_and (pe_cmpR op_eq (pe_callB (r := rIsi K) call_isi (by rfl) g_isinstance (by decide +kernel) (pa_cons (pv 0) (pa_cons (pe_bltn (v := .ty "int") (by rfl) g_int (by decide +kernel) rfl) pa_nil))) (pe_callB (r := rIsi K) call_isi (by rfl) g_isinstance (by decide +kernel) (pa_cons (pv 1) (pa_cons (pe_bltn (v := .ty "int") (by rfl) g_int (by decide +kernel) rfl) pa_nil))) (nomark _)) (pe_one (pe_cmpR op_eq (pv 0) (pv 1) (nomark _)))))) pss_nil)
  (pss_cons (ps_if (PW.pt (pw_or (pt_cmpR op_ne (pe_callB (r := rIsi K) call_isi (by rfl) g_isinstance (by decide +kernel) (pa_cons (pv 1) (pa_cons (pe_bltn (v := .ty "list") (by rfl) g_list (by decide +kernel) rfl) pa_nil))) (pe_callB (r := rIsi K) call_isi (by rfl) g_isinstance (by decide +kernel) (pa_cons (pv 0) (pa_cons (pe_bltn (v := .ty "list") (by rfl) g_list (by decide +kernel) rfl) pa_nil))) (nomark _)) (pw_or1 (pt_cmpR op_ne (pe_callB (r := rIsi K) call_isi (by rfl) g_isinstance (by decide +kernel) (pa_cons (pv 1) (pa_cons (pe_bltn (v := .ty "tuple") (by rfl) g_tuple (by decide +kernel) rfl) pa_nil))) (pe_callB (r := rIsi K) call_isi (by rfl) g_isinstance (by decide +kernel) (pa_cons (pv 0) (pa_cons (pe_bltn (v := .ty "tuple") (by rfl) g_tuple (by decide +kernel) rfl) pa_nil))) (nomark _))))) (pss_one (ps_ret pe_bl)) pss_nil)
  (pss_one (ps_ret (pe_and (pe_cmpR op_eq (pe_callB (r := Evl.rLenS K) call_len_seq (by rfl) g_len PySem.boot_len (pa_cons (pv 0) pa_nil)) (pe_callB (r := Evl.rLenS K) call_len_seq (by rfl) g_len PySem.boot_len (pa_cons (pv 1) pa_nil)) (nomark _)) (pe_one (pe_callB (r := rAll K) (cr_all rfl) (by rfl) g_all (by decide +kernel) (pa_cons (pe_lc (own := [("_law_k", 2)]) rfl nd (pi_range1 (by rfl) g_range (pa_cons (pe_callB (r := Evl.rLenS K) call_len_seq (by rfl) g_len PySem.boot_len (pa_cons (pv 1) pa_nil)) pa_nil)) (blkOk_by (N := ["_law_got", "_law_due", "_law_k"]) (sc := defScope (Hs.top 30)) (by decide +kernel)) (fun _ _ _ _ _ => (pg_name (i := 2) nd rfl (Or.inl rfl))) (fun _ _ _ _ _ => pts_nil) (fun _ _ _ _ _ => (Hs.pe_own O__law_same hr (by first | decide | omega) (by rfl) (pa_cons (pe_ix (r := rIx K) ix_seq (pv 0) (pv 2) (fun _ _ => rfl)) (pa_cons (pe_ix (r := rIx K) ix_seq (pv 1) (pv 2) (fun _ _ => rfl)) pa_nil))))) pa_nil)))))))))), ?_⟩)
    · obtain ⟨u, v, rfl, _⟩ := h
      rfl
    · obtain ⟨u, v, rfl, h, k⟩ := h
      rcases h with ⟨rfl, hf⟩ | ⟨a, b, xs, ys, rfl, rfl, hq, hlen, hz, hi⟩
      · cases u with
        | non =>
          refine q_when (et_or (et_test (ev_op (ev_var rfl) ev_c (rv_val fun H1 _ Q q => ⟨rfl, q⟩))) (fun _ => et_test (ev_op (ev_var rfl) ev_c (rv_val fun H1 _ Q q => ⟨rfl, q⟩)))) (fun ht H1 e1 => ?_) (fun ht => by simp at ht)
          exact s_ret (ev_is (ev_andV (ev_op (ev_var rfl) ev_c (rv_val fun H1 _ Q q => ⟨rfl, q⟩)) (fun _ => ev_op (ev_var rfl) ev_c (rv_val fun H1 _ Q q => ⟨rfl, q⟩))) (by simp)) fun H2 e2 => k _ (e1.trans e2)
        | bl y =>
          refine q_when (b := false) (et_is (et_or (et_test (ev_op (ev_var rfl) ev_c (rv_val fun H1 _ Q q => ⟨rfl, q⟩))) (fun _ => et_test (ev_op (ev_var rfl) ev_c (rv_val fun H1 _ Q q => ⟨rfl, q⟩)))) (by simp)) (fun ht => Bool.noConfusion ht) (fun _ H1 e1 => ?_)
          refine q_when (b := true) (et_is (et_or (et_B (ev_isi (ev_var rfl) ty_bl kb_bool_bool)) (fun _ => et_B (ev_isi (ev_var rfl) ty_bl kb_bool_bool))) (by simp)) (fun _ H2 e2 => ?_) (fun ht => Bool.noConfusion ht)
          exact s_ret (ev_is (ev_andV (ev_isi (ev_var rfl) ty_bl kb_bool_bool) (fun _ => ev_andV (ev_isi (ev_var rfl) ty_bl kb_bool_bool) (fun _ => ev_op (ev_var rfl) (ev_var rfl) (rv_eq rfl)))) (by simp)) fun H3 e3 => k _ ((e1.trans e2).trans e3)
        | int i =>
          refine q_when (b := false) (et_is (et_or (et_test (ev_op (ev_var rfl) ev_c (rv_val fun H1 _ Q q => ⟨rfl, q⟩))) (fun _ => et_test (ev_op (ev_var rfl) ev_c (rv_val fun H1 _ Q q => ⟨rfl, q⟩)))) (by simp)) (fun ht => Bool.noConfusion ht) (fun _ H1 e1 => ?_)
          refine q_when (b := false) (et_is (et_or (et_B (ev_isi (ev_var rfl) ty_int kb_int_bool)) (fun _ => et_B (ev_isi (ev_var rfl) ty_int kb_int_bool))) (by simp)) (fun ht => Bool.noConfusion ht) (fun _ H2 e2 => ?_)
          refine q_when (b := true) (et_is (et_B (ev_isi2 (ev_var rfl) ty_int kb_int_int kb_int_str)) (by simp)) (fun _ H3 e3 => ?_) (fun ht => Bool.noConfusion ht)
          exact s_ret (ev_is (ev_andV (ev_op (ev_isi (ev_var rfl) ty_int kb_int_int) (ev_isi (ev_var rfl) ty_int kb_int_int) (rv_eq rfl)) (fun _ => ev_op (ev_var rfl) (ev_var rfl) (rv_eq rfl))) (by simp)) fun H4 e4 => k _ (((e1.trans e2).trans e3).trans e4)
        | str x =>
          refine q_when (b := false) (et_is (et_or (et_test (ev_op (ev_var rfl) ev_c (rv_val fun H1 _ Q q => ⟨rfl, q⟩))) (fun _ => et_test (ev_op (ev_var rfl) ev_c (rv_val fun H1 _ Q q => ⟨rfl, q⟩)))) (by simp)) (fun ht => Bool.noConfusion ht) (fun _ H1 e1 => ?_)
          refine q_when (b := false) (et_is (et_or (et_B (ev_isi (ev_var rfl) ty_str kb_str_bool)) (fun _ => et_B (ev_isi (ev_var rfl) ty_str kb_str_bool))) (by simp)) (fun ht => Bool.noConfusion ht) (fun _ H2 e2 => ?_)
          refine q_when (b := true) (et_is (et_B (ev_isi2 (ev_var rfl) ty_str kb_str_int kb_str_str)) (by simp)) (fun _ H3 e3 => ?_) (fun ht => Bool.noConfusion ht)
          exact s_ret (ev_is (ev_andV (ev_op (ev_isi (ev_var rfl) ty_str kb_str_int) (ev_isi (ev_var rfl) ty_str kb_str_int) (rv_eq rfl)) (fun _ => ev_op (ev_var rfl) (ev_var rfl) (rv_eq rfl))) (by simp)) fun H4 e4 => k _ (((e1.trans e2).trans e3).trans e4)
        | _ => cases hf
      · have ta : ∀ {H' : Hp}, Ex H H' → (Ty K H' (.ref a) "list" ∧ Ty K H' (.ref b) "list") ∨ (Ty K H' (.ref a) "tuple" ∧ Ty K H' (.ref b) "tuple") := fun {H'} e => by
          rcases hq with ⟨p, q⟩ | ⟨p, q⟩
          · exact .inl ⟨ty_l (ex_l e p), ty_l (ex_l e q)⟩
          · exact .inr ⟨ty_t (ex_t e p), ty_t (ex_t e q)⟩
        have qa : ∀ {H' : Hp}, Ex H H' → SqL K H' a xs ∨ SqT K H' a xs := fun {H'} e => hq.imp (fun h => ex_l e h.1) (fun h => ex_t e h.1)
        have qb : ∀ {H' : Hp}, Ex H H' → SqL K H' b ys ∨ SqT K H' b ys := fun {H'} e => hq.imp (fun h => ex_l e h.2) (fun h => ex_t e h.2)
        refine q_when (b := false) (et_is (et_or (et_test (ev_op (ev_var rfl) ev_c (rv_val fun H1 _ Q q => ⟨rfl, q⟩))) (fun _ => et_test (ev_op (ev_var rfl) ev_c (rv_val fun H1 _ Q q => ⟨rfl, q⟩)))) (by simp)) (fun ht => Bool.noConfusion ht) (fun _ H1 e1 => ?_)
        have t2 : ∀ {σ : L2.St} {H' : Hp}, σ[0]? = some (some (.ref a)) → σ[1]? = some (some (.ref b)) → Ex H H' → Ev (tCB (rIsi K) (tCons (tVar 1) (tCons (tC (.ty "bool")) tNil))) σ H' (.bl false) ∧ Ev (tCB (rIsi K) (tCons (tVar 0) (tCons (tC (.ty "bool")) tNil))) σ H' (.bl false) ∧
            Ev (tCB (rIsiT K) (tCons (tVar 1) (tCons (tTup (tCons (tC (.ty "int")) (tCons (tC (.ty "str")) tNil))) tNil))) σ H' (.bl false) ∧
            ∃ b1 b2, Ev (tCB (rIsi K) (tCons (tVar 1) (tCons (tC (.ty "list")) tNil))) σ H' (.bl b1) ∧ Ev (tCB (rIsi K) (tCons (tVar 0) (tCons (tC (.ty "list")) tNil))) σ H' (.bl b1) ∧ Ev (tCB (rIsi K) (tCons (tVar 1) (tCons (tC (.ty "tuple")) tNil))) σ H' (.bl b2) ∧ Ev (tCB (rIsi K) (tCons (tVar 0) (tCons (tC (.ty "tuple")) tNil))) σ H' (.bl b2) := fun {σ H'} h0 h1 e => by
          rcases ta e with ⟨p, q⟩ | ⟨p, q⟩
          · exact ⟨ev_isi (ev_var h1) q kb_list_bool, ev_isi (ev_var h0) p kb_list_bool, ev_isi2 (ev_var h1) q kb_list_int kb_list_str, true, false, ev_isi (ev_var h1) q kb_list_list, ev_isi (ev_var h0) p kb_list_list, ev_isi (ev_var h1) q kb_list_tuple, ev_isi (ev_var h0) p kb_list_tuple⟩
          · exact ⟨ev_isi (ev_var h1) q kb_tuple_bool, ev_isi (ev_var h0) p kb_tuple_bool, ev_isi2 (ev_var h1) q kb_tuple_int kb_tuple_str, false, true, ev_isi (ev_var h1) q kb_tuple_list, ev_isi (ev_var h0) p kb_tuple_list, ev_isi (ev_var h1) q kb_tuple_tuple, ev_isi (ev_var h0) p kb_tuple_tuple⟩
        obtain ⟨i1, i2, _⟩ := t2 (σ := [some (.ref a), some (.ref b), none]) rfl rfl e1
        refine q_when (b := false) (et_is (et_or (et_B i1) (fun _ => et_B i2)) (by simp)) (fun ht => Bool.noConfusion ht) (fun _ H2 e2 => ?_)
        obtain ⟨_, _, i3, _⟩ := t2 (σ := [some (.ref a), some (.ref b), none]) rfl rfl (e1.trans e2)
        refine q_when (b := false) (et_B i3) (fun ht => Bool.noConfusion ht) (fun _ H3 e3 => ?_)
        have e03 := (e1.trans e2).trans e3
        obtain ⟨_, _, _, b1, b2, j1, j2, j3, j4⟩ := t2 (σ := [some (.ref a), some (.ref b), none]) rfl rfl e03
        refine q_when (b := false) (et_is (et_or (et_test (ev_op j1 j2 (rv_ne rfl))) (fun _ => et_test (ev_op j3 j4 (rv_ne rfl)))) (by simp)) (fun ht => Bool.noConfusion ht) (fun _ H4 e4 => ?_)
        have e04 := e03.trans e4
        refine s_ret (ev_is (ev_andV (ev_op (ev_lenQ (ev_var rfl) (qa e04)) (ev_lenQ (ev_var rfl) (qb e04)) (rv_eq rfl)) (fun _ => ev_allT (n := ys.length) ?_)) (by simp [hlen])) fun H5 e5 => k _ (e04.trans e5)
        refine el_lcR1 (n := (ys.length : Int)) (fun _ => true) (fun _ => V.bl true) (ea_cons (ev_lenQ (ev_var rfl) (qb e04)) ea_nil) (by omega) (fun x => rfl) (fun i H6 e6 hi6 H7 e7 Q' q' => q' H7 (Ex.refl H7)) (fun i H6 e6 hi6 _ => ?_)
        have hiy : i < ys.length := by omega
        have hix : i < xs.length := by omega
        have gx : xs[i]? = some xs[i] := List.getElem?_eq_getElem hix
        have gy : ys[i]? = some ys[i] := List.getElem?_eq_getElem hiy
        have e06 := e04.trans e6
        exact ev_call (ea_cons (ev_op (ev_var rfl) (ev_var rfl) (rv_ixQ (qa e06) (atI_nat gx))) (ea_cons (ev_op (ev_var rfl) (ev_var rfl) (rv_ixQ (qb e06) (atI_nat gy))) ea_nil)) fun H7 e7 Q' q' E' => ⟨_, _, rfl, (hi i _ _ gx gy).ext (e06.trans e7), q'⟩
end
end Hs
namespace Hs
open PySem PySem.Spec PyProof.Rows L2 Evl
/-! ### numbers of bounded size -/
def Bd (n : Nat) (i : Int) : Prop := i.natAbs < 2 ^ n
theorem Bd.mono {n m : Nat} {i : Int} (h : Bd n i) (l : n ≤ m) : Bd m i := Nat.lt_of_lt_of_le h (Nat.pow_le_pow_right (by decide) l)
theorem Bd.sub {n : Nat} {i j : Int} (hi : Bd n i) (hj : Bd n j) : Bd (n + 1) (i - j) := by
  unfold Bd at *
  rw [Nat.pow_succ]
  generalize 2 ^ n = N at *
  omega
theorem Bd.add {n : Nat} {i j : Int} (hi : Bd n i) (hj : Bd n j) : Bd (n + 1) (i + j) := by
  unfold Bd at *
  rw [Nat.pow_succ]
  generalize 2 ^ n = N at *
  omega
theorem Bd.neg {n : Nat} {i : Int} (hi : Bd n i) : Bd n (-i) := by
  unfold Bd at *
  omega
theorem Bd.mul {n m : Nat} {i j : Int} (hi : Bd n i) (hj : Bd m j) : Bd (n + m) (i * j) := by
  unfold Bd at *
  rw [Int.natAbs_mul, Nat.pow_add]
  exact Nat.mul_lt_mul'' hi hj
theorem Bd.cmul {n m : Nat} {i j : Int} (hi : Bd n i) (hj : Bd m j) (h : n + m ≤ 90000 := by decide) : CMulW i j := wide_mul (hi.mono (Nat.le_succ _)) (hj.mono (Nat.le_succ _)) (Nat.succ_pos _) (Nat.succ_pos _) (by omega)
theorem Bd.of {n : Nat} {i : Int} (h : i.natAbs < 2 ^ n) : Bd n i := h
/-! ### places, pieces, blocks -/
abbrev Pt := Int × Int
def prV (x : Pt) : List V := [.int x.1, .int x.2]
def RetU (xs : List V) (H : Hp) (Q : VK) : Prop := ∀ p H2, H p = none → Ex H H2 → H2 p = some (.tup xs) → Q (.ref p) H2
theorem RetU.go {xs : List V} {H H' : Hp} {Q : VK} (k : RetU xs H Q) (e : Ex H H') {p : Addr} {H2 : Hp} (hp : H' p = none) (e2 : Ex H' H2) (h : H2 p = some (.tup xs)) : Q (.ref p) H2 := k p H2 (fresh_back e hp) (e.trans e2) h
/-- a place within 2 ^ n -/
def Pl (K : PySem.W.Frag) (n : Nat) (H : Hp) (p : Addr) (x : Pt) : Prop := SqT K H p (prV x) ∧ Bd n x.1 ∧ Bd n x.2
theorem Pl.ext {K : PySem.W.Frag} {n : Nat} {H H' : Hp} {p : Addr} {x : Pt} (h : Pl K n H p x) (e : Ex H H') : Pl K n H' p x := ⟨ex_t e h.1, h.2⟩
def Pc (K : PySem.W.Frag) (n : Nat) (H : Hp) (p : Addr) (x y : Pt) : Prop := ∃ a b, SqT K H p [.ref a, .ref b] ∧ Pl K n H a x ∧ Pl K n H b y
theorem Pc.ext {K : PySem.W.Frag} {n : Nat} {H H' : Hp} {p : Addr} {x y : Pt} (h : Pc K n H p x y) (e : Ex H H') : Pc K n H' p x y := by
  obtain ⟨a, b, h1, h2, h3⟩ := h
  exact ⟨a, b, ex_t e h1, h2.ext e, h3.ext e⟩
structure Blk where
  left : Int
  low : Int
  right : Int
  high : Int
def blV (b : Blk) : List V := [.int b.left, .int b.low, .int b.right, .int b.high]
def BdB (n : Nat) (b : Blk) : Prop := Bd n b.left ∧ Bd n b.low ∧ Bd n b.right ∧ Bd n b.high
def Bl (K : PySem.W.Frag) (n : Nat) (H : Hp) (p : Addr) (b : Blk) : Prop := SqT K H p (blV b) ∧ BdB n b
theorem Bl.ext {K : PySem.W.Frag} {n : Nat} {H H' : Hp} {p : Addr} {x : Blk} (h : Bl K n H p x) (e : Ex H H') : Bl K n H' p x := ⟨ex_t e h.1, h.2⟩
def cross (a b c : Pt) : Int := (b.1 - a.1) * (c.2 - a.2) - (b.2 - a.2) * (c.1 - a.1)
def sgn (i : Int) : Int := if 0 < i then 1 else if i < 0 then -1 else 0
def mn (i j : Int) : Int := if j < i then j else i
def mx (i j : Int) : Int := if j > i then j else i
theorem Bd.mn {n : Nat} {i j : Int} (hi : Bd n i) (hj : Bd n j) : Bd n (mn i j) := by
  unfold Hs.mn
  split
  · exact hj
  · exact hi
theorem Bd.mx {n : Nat} {i j : Int} (hi : Bd n i) (hj : Bd n j) : Bd n (mx i j) := by
  unfold Hs.mx
  split
  · exact hj
  · exact hi
def boxOf (a b : Pt) : Blk := ⟨mn a.1 b.1, mn a.2 b.2, mx a.1 b.1, mx a.2 b.2⟩
def hts (b : Blk) (x : Pt) : List Int := [x.1 - b.left, b.right - x.1, x.2 - b.low, b.high - x.2]
def phts (a b x : Pt) : List Int := cross a b x :: -cross a b x :: hts (boxOf a b) x
theorem box_bd {n : Nat} {a b : Pt} (ha : Bd n a.1 ∧ Bd n a.2) (hb : Bd n b.1 ∧ Bd n b.2) : BdB n (boxOf a b) := ⟨ha.1.mn hb.1, ha.2.mn hb.2, ha.1.mx hb.1, ha.2.mx hb.2⟩
theorem ev_x1 {K : PySem.W.Frag} {σ : L2.St} {H : Hp} {p : Addr} {x : Pt} {n j : Nat} (hs : σ[j]? = some (some (.ref p))) (h : Pl K n H p x) : Ev (tOp (rIxT K) (tVar j) (tC (.int 0))) σ H (.int x.1) := ev_ixt hs h.1 rfl
theorem ev_x2 {K : PySem.W.Frag} {σ : L2.St} {H : Hp} {p : Addr} {x : Pt} {n j : Nat} (hs : σ[j]? = some (some (.ref p))) (h : Pl K n H p x) : Ev (tOp (rIxT K) (tVar j) (tC (.int 1))) σ H (.int x.2) := ev_ixt hs h.1 rfl
theorem ev_min2 {σ : L2.St} {H : Hp} {ta tb : TE} {i j : Int} (ha : Ev ta σ H (.int i)) (hb : Ev tb σ H (.int j)) : Ev (tCB (fun xs H Q => ∃ i j, xs = [.int i, .int j] ∧ Q (.int (if j < i then j else i)) H) (tCons ta (tCons tb tNil))) σ H (.int (mn i j)) := ev_cb (ea_cons ha (ea_cons hb ea_nil)) fun H1 _ Q q => ⟨i, j, rfl, q H1 (Ex.refl H1)⟩
theorem ev_mx2 {σ : L2.St} {H : Hp} {ta tb : TE} {i j : Int} (ha : Ev ta σ H (.int i)) (hb : Ev tb σ H (.int j)) : Ev (tCB (fun xs H Q => ∃ i j, xs = [.int i, .int j] ∧ Q (.int (if j > i then j else i)) H) (tCons ta (tCons tb tNil))) σ H (.int (mx i j)) := ev_cb (ea_cons ha (ea_cons hb ea_nil)) fun H1 _ Q q => ⟨i, j, rfl, q H1 (Ex.refl H1)⟩
/-- calls, by their readings -/
theorem eu_call {σ : L2.St} {H : Hp} {sp : Sp} {dvs vs xs : List V} {E : XK} {ta : TA} (h : EvA ta σ H vs) (hs : ∀ H1, Ex H H1 → ∀ Q : VK, RetU xs H1 Q → ∀ E : XK, sp (vs ++ dvs) H1 Q E) : EvU (tCall sp dvs E ta) σ H xs := fun H1 e Q q =>
  h H1 e _ fun H2 e2 => hs H2 (e.trans e2) Q (fun p H3 hp e3 h3 => q p H3 (fresh_back e2 hp) (e2.trans e3) h3) E
end Hs
namespace Hs
open PySem PySem.Spec PyProof.Rows L2 Evl
/-! ### min of a tuple of numbers -/
def rMinT (K : PySem.W.Frag) : List V → Hp → VK → Prop := fun vs H Q => ∃ (a : Addr) (ns : List Int), vs = [V.ref a] ∧ SqT K H a (ns.map V.int) ∧ 0 < ns.length ∧ ∀ m, m ∈ ns → (∀ y, y ∈ ns → m ≤ y) → Q (.int m) H
theorem minOf_mem : ∀ (xs : List Int) (x : Int), PySem.W.minOf x xs ∈ x :: xs ∧ ∀ y ∈ x :: xs, PySem.W.minOf x xs ≤ y := by
  intro xs
  induction xs with
  | nil =>
    intro x
    exact ⟨List.mem_singleton.mpr rfl, fun y hy => by rw [List.mem_singleton.mp hy]; exact Int.le_refl _⟩
  | cons z zs ih =>
    intro x
    have e : PySem.W.minOf x (z :: zs) = PySem.W.minOf (if decide (z < x) = true then z else x) zs := rfl
    obtain ⟨h1, h2⟩ := ih (if decide (z < x) = true then z else x)
    rw [e]
    generalize PySem.W.minOf (if decide (z < x) = true then z else x) zs = m at h1 h2 ⊢
    have h3 := h2 _ (List.mem_cons_self ..)
    refine ⟨?_, fun y hy => ?_⟩
    · rcases List.mem_cons.mp h1 with q | q
      · rw [q]
        split
        · exact List.mem_cons_of_mem _ (List.mem_cons_self ..)
        · exact List.mem_cons_self ..
      · exact List.mem_cons_of_mem _ (List.mem_cons_of_mem _ q)
    · have h4 : m ≤ x ∧ m ≤ z := by
        split at h3
        · rename_i q
          have := of_decide_eq_true q
          omega
        · rename_i q
          have : ¬ z < x := fun w => q (decide_eq_true w)
          omega
      rcases List.mem_cons.mp hy with q | q
      · rw [q]
        exact h4.1
      · rcases List.mem_cons.mp q with q | q
        · rw [q]
          exact h4.2
        · exact h2 y (List.mem_cons_of_mem _ q)
theorem hold_ints {h : Heap} : ∀ {ns : List Int} {its : List Value}, Vals (ns.map V.int) its → PySem.W.HoldAll h its ns
  | [], _, r => by
    cases r
    exact .nil
  | n :: ns, _, r => by
    cases r with
    | cons r rr =>
      obtain ⟨t, rfl⟩ := r
      exact .cons (PySem.W.holds_int n t) (hold_ints rr)
theorem cr_minT {X : Cx} {k : Nat} (hc : X.calm = true) (hr : Room k X.A) : CallR X (.builtin "min") (rMinT X.K) := by
  intro pins s σ H vs us Q I r h
  obtain ⟨a, ns, rfl, hs, hne, q⟩ := h
  obtain ⟨its, rv, hl, _⟩ := I.tuple hs
  rw [Vals.ref1 r]
  cases ns with
  | nil => cases hne
  | cons x xs =>
    refine PySem.W.min_tuple_datum (x := x) (xs := xs) (I.ok.hd hc) (show s.heap.IsTuple a its.toArray from hl) (by simpa using hold_ints rv) ?_ fun i v h' tk hv hh hk => ?_
    · have := hr.un
      show X.A.units + 1 + 0 < _
      omega
    · obtain ⟨t, rfl⟩ := PySem.W.int_of_holds hh
      obtain ⟨m1, m2⟩ := minOf_mem xs x
      exact ⟨.int _, H, I.kept hk, ⟨_, rfl⟩, q _ m1 m2⟩
theorem rc_minT {K : PySem.W.Frag} {H : Hp} {a : Addr} {ns : List Int} (h : SqT K H a (ns.map V.int)) (hn : 0 < ns.length) : ∃ m, m ∈ ns ∧ (∀ y, y ∈ ns → m ≤ y) ∧ RC (rMinT K) [.ref a] H (.int m) := by
  cases ns with
  | nil => cases hn
  | cons x xs =>
    obtain ⟨m1, m2⟩ := minOf_mem xs x
    refine ⟨_, m1, m2, fun H1 e Q q => ⟨a, _, rfl, ex_t e h, hn, fun m h1 h2 => ?_⟩⟩
    have e : m = PySem.W.minOf x xs := Int.le_antisymm (h2 _ m1) (m2 _ h1)
    rw [e]
    exact q H1 (Ex.refl H1)
end Hs
namespace Hs
open PySem PySem.Spec PyProof.Rows L2 Evl
def spCross (K : PySem.W.Frag) (n : Nat) : Sp := fun vs H Q _ => ∃ p q r x y z, vs = [.ref p, .ref q, .ref r] ∧ Pl K n H p x ∧ Pl K n H q y ∧ Pl K n H r z ∧ RetV (.int (cross x y z)) H Q
def spSide (K : PySem.W.Frag) (n : Nat) : Sp := fun vs H Q _ => ∃ p q r x y z, vs = [.ref p, .ref q, .ref r] ∧ Pl K n H p x ∧ Pl K n H q y ∧ Pl K n H r z ∧ RetV (.int (sgn (cross x y z))) H Q
def spBox (K : PySem.W.Frag) (n : Nat) : Sp := fun vs H Q _ => ∃ p x y, vs = [.ref p] ∧ Pc K n H p x y ∧ RetU (blV (boxOf x y)) H Q
def spHts (K : PySem.W.Frag) (n : Nat) : Sp := fun vs H Q _ => ∃ p q b x, vs = [.ref p, .ref q] ∧ Bl K n H p b ∧ Pl K n H q x ∧ RetU ((hts b x).map V.int) H Q
def spPhts (K : PySem.W.Frag) (n : Nat) : Sp := fun vs H Q _ => ∃ p q a b x, vs = [.ref p, .ref q] ∧ Pc K n H p a b ∧ Pl K n H q x ∧ RetU ((phts a b x).map V.int) H Q
/-- whether x is a point of the piece from a to b -/
def OnP (a b x : Pt) : Prop := cross a b x = 0 ∧ mn a.1 b.1 ≤ x.1 ∧ x.1 ≤ mx a.1 b.1 ∧ mn a.2 b.2 ≤ x.2 ∧ x.2 ≤ mx a.2 b.2
instance (a b x : Pt) : Decidable (OnP a b x) := by
  unfold OnP
  infer_instance
theorem cmul {n : Nat} {x y z u : Int} (hn : n ≤ 10000) (h1 : Bd n x) (h2 : Bd n y) (h3 : Bd n z) (h4 : Bd n u) : CMulW (x - y) (z - u) := Bd.cmul (h1.sub h2) (h3.sub h4) (by omega)
section
variable {P : Program} {w : World} {K : PySem.W.Frag} {mg : Str → Option Value} {base : Heap} {f : Addr} {fd : FuncData} {n : Nat}
abbrev sLean : Stmt := top 14
theorem scLean : FnScope ["one", "other", "place", "across", "up"] ["one", "other", "place"] (defScope sLean) := ⟨rfl, rfl, rfl, by decide +kernel, rfl, by decide +kernel, by decide +kernel⟩
theorem ok_lean (F : FnP K "lean" sLean f fd) (hn : n ≤ 10000) : FnOk P w K mg base CX0 1 f fd ["one", "other", "place"] (spCross K n) := by
  have nd := scLean.nd
  refine F.ok scLean (fun vs H Q E h => ?_) (fun cdv A outer s H vs Q E hr h => ⟨_, PSs.nox (pss_cons (ps_set (i := 3) nd rfl (.inl rfl) (pe_op op_sub (pe_ix (r := rIxT K) ix_tup (pv 1) pe_int (fun _ _ => rfl)) (pe_ix (r := rIxT K) ix_tup (pv 0) pe_int (fun _ _ => rfl))))
  (pss_cons (ps_set (i := 4) nd rfl (.inl rfl) (pe_op op_sub (pe_ix (r := rIxT K) ix_tup (pv 1) pe_int (fun _ _ => rfl)) (pe_ix (r := rIxT K) ix_tup (pv 0) pe_int (fun _ _ => rfl))))
  (pss_one (ps_ret (pe_op op_sub (pe_op op_mulW (pv 3) (pe_op op_sub (pe_ix (r := rIxT K) ix_tup (pv 2) pe_int (fun _ _ => rfl)) (pe_ix (r := rIxT K) ix_tup (pv 0) pe_int (fun _ _ => rfl)))) (pe_op op_mulW (pv 4) (pe_op op_sub (pe_ix (r := rIxT K) ix_tup (pv 2) pe_int (fun _ _ => rfl)) (pe_ix (r := rIxT K) ix_tup (pv 0) pe_int (fun _ _ => rfl))))))))), ?_⟩)
  · obtain ⟨p, q, r, x, y, z, rfl, _⟩ := h
    rfl
  · obtain ⟨p, q, r, x, y, z, rfl, hx, hy, hz, k⟩ := h
    refine q_asg (ev_op (ev_x1 rfl hy) (ev_x1 rfl hx) rv_I0) fun H1 e1 => ?_
    refine q_asg (ev_op (ev_x2 rfl (hy.ext e1)) (ev_x2 rfl (hx.ext e1)) rv_I0) fun H2 e2 => ?_
    have e12 := e1.trans e2
    exact s_ret (ev_op (ev_op (ev_var rfl) (ev_op (ev_x2 rfl (hz.ext e12)) (ev_x2 rfl (hx.ext e12)) rv_I0) (rv_I (cmul hn hy.2.1 hx.2.1 hz.2.2 hx.2.2))) (ev_op (ev_var rfl) (ev_op (ev_x1 rfl (hz.ext e12)) (ev_x1 rfl (hx.ext e12)) rv_I0) (rv_I (cmul hn hy.2.2 hx.2.2 hz.2.1 hx.2.1))) rv_I0) fun H3 e3 => k _ (e12.trans e3)
abbrev sSide : Stmt := top 15
theorem scSide : FnScope ["one", "other", "place", "worth"] ["one", "other", "place"] (defScope sSide) := ⟨rfl, rfl, rfl, by decide +kernel, rfl, by decide +kernel, by decide +kernel⟩
theorem ok_side (F : FnP K "side" sSide f fd) (O_lean : Own P w K mg base 1 "lean" ["one", "other", "place"] (spCross K n)) : FnOk P w K mg base CX0 2 f fd ["one", "other", "place"] (spSide K n) := by
  have nd := scSide.nd
  refine F.ok scSide (fun vs H Q E h => ?_) (fun cdv A outer s H vs Q E hr h => ⟨_, PSs.nox (pss_cons (ps_set (i := 3) nd rfl (.inl rfl) (Hs.pe_own O_lean hr (by first | decide | omega) (by rfl) (pa_cons (pv 0) (pa_cons (pv 1) (pa_cons (pv 2) pa_nil)))))
  (pss_cons (ps_if (pt_cmpR op_gt (pv 3) pe_int (nomark _)) (pss_one (ps_ret pe_int)) pss_nil)
  (pss_cons (ps_if (pt_cmpR op_lt (pv 3) pe_int (nomark _)) (pss_one (ps_ret (pe_un un_neg pe_int))) pss_nil)
  (pss_one (ps_ret pe_int))))), ?_⟩)
  · obtain ⟨p, q, r, x, y, z, rfl, _⟩ := h
    rfl
  · obtain ⟨p, q, r, x, y, z, rfl, hx, hy, hz, k⟩ := h
    refine q_asg (ev_call (ea_cons (ev_var rfl) (ea_cons (ev_var rfl) (ea_cons (ev_var rfl) ea_nil))) fun H1 e1 Q' q' E' => ⟨p, q, r, x, y, z, rfl, hx.ext e1, hy.ext e1, hz.ext e1, q'⟩) fun H1 e1 => ?_
    unfold sgn at k
    refine q_when (et_test (ev_op (ev_var rfl) ev_c rv_I0)) (fun ht H2 e2 => ?_) (fun ht H2 e2 => ?_)
    · rw [if_pos (of_decide_eq_true ht)] at k
      exact s_ret ev_c fun H3 e3 => k _ ((e1.trans e2).trans e3)
    · rw [if_neg (of_decide_eq_false ht)] at k
      refine q_when (et_test (ev_op (ev_var rfl) ev_c rv_I0)) (fun ht H3 e3 => ?_) (fun ht H3 e3 => ?_)
      · rw [if_pos (of_decide_eq_true ht)] at k
        exact s_ret (ev_un ev_c ru_neg) fun H4 e4 => k _ (((e1.trans e2).trans e3).trans e4)
      · rw [if_neg (of_decide_eq_false ht)] at k
        exact s_ret ev_c fun H4 e4 => k _ (((e1.trans e2).trans e3).trans e4)
abbrev sBox : Stmt := top 16
theorem scBox : FnScope ["piece", "across", "up", "other_across", "other_up"] ["piece"] (defScope sBox) := ⟨rfl, rfl, rfl, by decide +kernel, rfl, by decide +kernel, by decide +kernel⟩
theorem ok_box (F : FnP K "box_around" sBox f fd) (g_min : mg "min" = none) (g_max : mg "max" = none) : FnOk P w K mg base CX0 1 f fd ["piece"] (spBox K n) := by
  have nd := scBox.nd
  refine F.ok scBox (fun vs H Q E h => ?_) (fun cdv A outer s H vs Q E hr h => ⟨_, PSs.nox (pss_cons (ps_asg (pv 0) (pg_tup rfl (pgs_cons (pg_tup rfl (pgs_cons (pg_name (i := 1) nd rfl (.inl rfl)) (pgs_cons (pg_name (i := 2) nd rfl (.inl rfl)) pgs_nil))) (pgs_cons (pg_tup rfl (pgs_cons (pg_name (i := 3) nd rfl (.inl rfl)) (pgs_cons (pg_name (i := 4) nd rfl (.inl rfl)) pgs_nil))) pgs_nil))))
  (pss_one (ps_ret (pe_tup (pa_cons (pe_callB (call_min2 rfl) (by rfl) g_min (by decide +kernel) (pa_cons (pv 1) (pa_cons (pv 3) pa_nil))) (pa_cons (pe_callB (call_min2 rfl) (by rfl) g_min (by decide +kernel) (pa_cons (pv 2) (pa_cons (pv 4) pa_nil))) (pa_cons (pe_callB (call_max2 rfl) (by rfl) g_max (by decide +kernel) (pa_cons (pv 1) (pa_cons (pv 3) pa_nil))) (pa_cons (pe_callB (call_max2 rfl) (by rfl) g_max (by decide +kernel) (pa_cons (pv 2) (pa_cons (pv 4) pa_nil))) pa_nil)))))))), ?_⟩)
  · obtain ⟨p, x, y, rfl, _⟩ := h
    rfl
  · obtain ⟨p, x, y, rfl, ⟨a, b, hp, hx, hy⟩, k⟩ := h
    refine ⟨_, rfl, p, _, rfl, hp, rfl, _, _, rfl, ⟨a, _, rfl, hx.1, rfl, _, _, rfl, _, _, rfl, rfl, _, _, rfl, b, _, rfl, hy.1, rfl, _, _, rfl, _, _, rfl, rfl, rfl, ?_⟩⟩
    exact s_retU (eu_tup (ea_cons (ev_min2 (ev_var rfl) (ev_var rfl)) (ea_cons (ev_min2 (ev_var rfl) (ev_var rfl)) (ea_cons (ev_mx2 (ev_var rfl) (ev_var rfl)) (ea_cons (ev_mx2 (ev_var rfl) (ev_var rfl)) ea_nil)))) (by simp)) fun p H3 hp e3 h3 => k p H3 hp e3 h3
abbrev sHts : Stmt := top 17
theorem scHts : FnScope ["block", "place", "left", "low", "right", "high", "across", "up"] ["block", "place"] (defScope sHts) := ⟨rfl, rfl, rfl, by decide +kernel, rfl, by decide +kernel, by decide +kernel⟩
theorem ok_hts (F : FnP K "block_heights" sHts f fd) : FnOk P w K mg base CX0 1 f fd ["block", "place"] (spHts K n) := by
  have nd := scHts.nd
  refine F.ok scHts (fun vs H Q E h => ?_) (fun cdv A outer s H vs Q E hr h => ⟨_, PSs.nox (pss_cons (ps_asg (pv 0) (pg_tup rfl (pgs_cons (pg_name (i := 2) nd rfl (.inl rfl)) (pgs_cons (pg_name (i := 3) nd rfl (.inl rfl)) (pgs_cons (pg_name (i := 4) nd rfl (.inl rfl)) (pgs_cons (pg_name (i := 5) nd rfl (.inl rfl)) pgs_nil))))))
  (pss_cons (ps_asg (pv 1) (pg_tup rfl (pgs_cons (pg_name (i := 6) nd rfl (.inl rfl)) (pgs_cons (pg_name (i := 7) nd rfl (.inl rfl)) pgs_nil))))
  (pss_one (ps_ret (pe_tup (pa_cons (pe_op op_sub (pv 6) (pv 2)) (pa_cons (pe_op op_sub (pv 4) (pv 6)) (pa_cons (pe_op op_sub (pv 7) (pv 3)) (pa_cons (pe_op op_sub (pv 5) (pv 7)) pa_nil))))))))), ?_⟩)
  · obtain ⟨p, q, b, x, rfl, _⟩ := h
    rfl
  · obtain ⟨p, q, b, x, rfl, hb, hx, k⟩ := h
    refine ⟨_, rfl, p, _, rfl, hb.1, rfl, _, _, rfl, _, _, rfl, _, _, rfl, _, _, rfl, rfl, _, rfl, q, _, rfl, hx.1, rfl, _, _, rfl, _, _, rfl, rfl, ?_⟩
    exact s_retU (eu_tup (ea_cons (ev_op (ev_var rfl) (ev_var rfl) rv_I0) (ea_cons (ev_op (ev_var rfl) (ev_var rfl) rv_I0) (ea_cons (ev_op (ev_var rfl) (ev_var rfl) rv_I0) (ea_cons (ev_op (ev_var rfl) (ev_var rfl) rv_I0) ea_nil)))) (by simp)) fun p H3 hp e3 h3 => k p H3 hp e3 h3
end
end Hs
namespace Hs
open PySem PySem.Spec PyProof.Rows L2 Evl
section
variable {P : Program} {w : World} {K : PySem.W.Frag} {mg : Str → Option Value} {base : Heap} {f : Addr} {fd : FuncData} {n : Nat}
abbrev sPhts : Stmt := top 18
theorem scPhts : FnScope ["piece", "place", "worth"] ["piece", "place"] (defScope sPhts) := ⟨rfl, rfl, rfl, by decide +kernel, rfl, by decide +kernel, by decide +kernel⟩
theorem ok_phts (F : FnP K "piece_heights" sPhts f fd) (O_lean : Own P w K mg base 1 "lean" ["one", "other", "place"] (spCross K n)) (O_box_around : Own P w K mg base 1 "box_around" ["piece"] (spBox K n)) (O_block_heights : Own P w K mg base 1 "block_heights" ["block", "place"] (spHts K n)) :
    FnOk P w K mg base CX0 2 f fd ["piece", "place"] (spPhts K n) := by
  have nd := scPhts.nd
  refine F.ok scPhts (fun vs H Q E h => ?_) (fun cdv A outer s H vs Q E hr h => ⟨_, PSs.nox (pss_cons (ps_set (i := 2) nd rfl (.inl rfl) (Hs.pe_own O_lean hr (by first | decide | omega) (by rfl) (pa_cons (pe_ix (r := rIxT K) ix_tup (pv 0) pe_int (fun _ _ => rfl)) (pa_cons (pe_ix (r := rIxT K) ix_tup (pv 0) pe_int (fun _ _ => rfl)) (pa_cons (pv 1) pa_nil)))))
  (pss_one (ps_ret (pe_op (r := rCatT K) op_catT (pe_tup (pa_cons (pv 2) (pa_cons (pe_un un_neg (pv 2)) pa_nil))) (Hs.pe_own O_block_heights hr (by first | decide | omega) (by rfl) (pa_cons (Hs.pe_own O_box_around hr (by first | decide | omega) (by rfl) (pa_cons (pv 0) pa_nil)) (pa_cons (pv 1) pa_nil))))))), ?_⟩)
  · obtain ⟨p, q, a, b, x, rfl, _⟩ := h
    rfl
  · obtain ⟨p, q, a, b, x, rfl, hp, hx, k⟩ := h
    obtain ⟨pa, pb, hp1, ha, hb⟩ := id hp
    refine q_asg (v := .int (cross a b x)) (ev_call (ea_cons (ev_ixt (xs := [.ref pa, .ref pb]) rfl hp1 rfl) (ea_cons (ev_ixt (xs := [.ref pa, .ref pb]) rfl hp1 rfl) (ea_cons (ev_var rfl) ea_nil))) fun H1 e1 Q' q' E' => ⟨pa, pb, q, a, b, x, rfl, ha.ext e1, hb.ext e1, hx.ext e1, q'⟩) fun H1 e1 => ?_
    refine ⟨_, rfl, _, rfl, _, rfl, sz_of (by simp), fun t1 ht1 => ?_⟩
    have x1 := e1.trans (Ex.new (o := .tup [V.int (cross a b x), .int (-cross a b x)]) ht1)
    refine ⟨_, rfl, p, a, b, rfl, hp.ext x1, fun t2 H2 nt2 e2 ht2 => ⟨_, rfl, t2, q, boxOf a b, x, rfl, ⟨st_of ht2, box_bd ha.2 hb.2⟩, hx.ext (x1.trans e2), fun t3 H3 nt3 e3 ht3 => ?_⟩⟩
    have h3 := e3 _ _ (e2 _ _ (upd_same (H := H1) (a := t1) (o := .tup [V.int (cross a b x), .int (-cross a b x)])))
    refine ⟨t1, t3, _, _, rfl, rfl, st_of h3, st_of ht3, by simp, sz_of (by simp [hts]), fun z => by simp [hts] at z, fun _ t4 ht4 => ?_⟩
    have x3 := (x1.trans e2).trans e3
    exact k t4 _ (fresh_back x3 ht4) (x3.trans (Ex.new ht4)) upd_same
end
end Hs
namespace Hs
open PySem PySem.Spec PyProof.Rows L2 Evl
/-! ### what is drawn: a grid, places on it -/
theorem bag_ne {H : Hp} {b l p : Addr} {ns : List Int} {n : Nat} (B : BagAt H b l ns n) (hp : H p = none) : p ≠ b := fun z => by
  obtain ⟨i, y, s, c, h, _⟩ := B.ex
  rw [← z, hp] at h
  cases h
theorem bag_lst {H : Hp} {b l : Addr} {ns : List Int} {n : Nat} (B : BagAt H b l ns n) : ∃ xs, H b = some (.lst xs) := by
  obtain ⟨⟨i, z, s, c, h1, _⟩, _⟩ := B
  exact ⟨_, h1⟩
theorem bag_upd {H : Hp} {b l a : Addr} {ns : List Int} {n : Nat} {o : HO} (B : BagAt H b l ns n) (h1 : b ≠ a) (h2 : l ≠ a) : BagAt (upd H a o) b l ns n := by
  obtain ⟨⟨i, z, s, c, q1, q2, q3, q4, q5⟩, q6, q7⟩ := B
  exact ⟨⟨i, z, s, c, by rw [upd_ne h1]; exact q1, q2, q3, q4, q5⟩, by rw [upd_ne h2]; exact q6, q7⟩
theorem But.fresh {H H' : Hp} {b l p : Addr} {ns : List Int} {n : Nat} (k : But H H' b) (B : BagAt H' b l ns n) (hp : H' p = none) : H p = none := by
  cases h : H p with
  | none => rfl
  | some o =>
    have := k p o h (bag_ne B hp)
    rw [hp] at this
    cases this
theorem But.tup {H H' : Hp} {b l p : Addr} {ns : List Int} {n : Nat} {xs : List V} (k : But H H' b) (B : BagAt H b l ns n) (h : H p = some (.tup xs)) : H' p = some (.tup xs) := by
  obtain ⟨ys, hb⟩ := bag_lst B
  refine k _ _ h fun z => ?_
  rw [z, hb] at h
  cases h
def Grid (w x y : Int) : Prop := (1 ≤ w ∧ w ≤ 60) ∧ x.natAbs + w.natAbs ≤ 1000000 ∧ y.natAbs + w.natAbs ≤ 1000000
def spGrid : Sp := fun vs H Q _ => ∃ (b l : Addr) (ns : List Int) (n : Nat), vs = [.ref b] ∧ BagAt H b l ns n ∧ n < 900000 ∧ ∀ (p : Addr) (w x y : Int) (H' : Hp), Grid w x y → H p = none → H' p = some (.tup [.int w, .int x, .int y]) → BagAt H' b l ns (n + 3) → But H H' b → Q (.ref p) H'
def Near (z : Pt) : Prop := z.1.natAbs ≤ 1000000 ∧ z.2.natAbs ≤ 1000000
def spSpot : Sp := fun vs H Q _ => ∃ (b l g : Addr) (ns : List Int) (n : Nat) (w x y : Int), vs = [.ref b, .ref g] ∧ BagAt H b l ns n ∧ n < 900000 ∧ H g = some (.tup [.int w, .int x, .int y]) ∧ Grid w x y ∧
  ∀ (p : Addr) (z : Pt) (H' : Hp), Near z → H p = none → H' p = some (.tup (prV z)) → BagAt H' b l ns (n + 2) → But H H' b → Q (.ref p) H'
section
variable {P : Program} {w : World} {K : PySem.W.Frag} {mg : Str → Option Value} {base : Heap} {f : Addr} {fd : FuncData}
abbrev sGrid : Stmt := top 31
theorem scGrid : FnScope ["_law_bag_here", "_law_way"] ["_law_bag_here"] (defScope sGrid) := ⟨rfl, rfl, rfl, by decide +kernel, rfl, by decide +kernel, by decide +kernel⟩
theorem ok_grid (F : FnP K "_law_grid" sGrid f fd) (O__law_pull : Own P w K mg base 1 "_law_pull" ["_law_bag_here", "_law_many"] spPull) : FnOk P w K mg base CX0 2 f fd ["_law_bag_here"] spGrid := by
  have nd := scGrid.nd
  refine F.ok scGrid (fun vs H Q E h => ?_) (fun cdv A outer s H vs Q E hr h => ⟨_, PSs.nox (pss_cons (ps_set (i := 1) nd rfl (.inl rfl) (Hs.pe_own O__law_pull hr (by first | decide | omega) (by rfl) (pa_cons (pv 0) (pa_cons pe_int pa_nil))))
  (pss_cons (ps_if (pt_cmpR op_lt (pv 1) pe_int (nomark _)) (pss_one (ps_ret (pe_tup (pa_cons pe_int (pa_cons pe_int (pa_cons pe_int pa_nil)))))) pss_nil)
  (pss_cons (ps_if (pt_cmpR op_eq (pv 1) pe_int (nomark _)) (pss_one (ps_ret (pe_tup (pa_cons (pe_op op_add pe_int (Hs.pe_own O__law_pull hr (by first | decide | omega) (by rfl) (pa_cons (pv 0) (pa_cons pe_int pa_nil)))) (pa_cons pe_int (pa_cons pe_int pa_nil)))))) pss_nil)
  (pss_one (ps_ret (pe_tup (pa_cons pe_int (pa_cons (pe_op op_mulW (pe_op op_sub (pe_op op_pow pe_int pe_int) pe_int) (pe_op op_sub (pe_op op_mulW pe_int (Hs.pe_own O__law_pull hr (by first | decide | omega) (by rfl) (pa_cons (pv 0) (pa_cons pe_int pa_nil)))) pe_int)) (pa_cons (pe_op op_mulW (pe_op op_sub (pe_op op_pow pe_int pe_int) pe_int) (pe_op op_sub (Hs.pe_own O__law_pull hr (by first | decide | omega) (by rfl) (pa_cons (pv 0) (pa_cons pe_int pa_nil))) pe_int)) pa_nil))))))))), ?_⟩)
  · obtain ⟨b, l, ns, n, rfl, _⟩ := h
    rfl
  · obtain ⟨b, l, ns, n, rfl, B, hn, k⟩ := h
    refine ⟨_, rfl, b, l, ns, n, 6, rfl, B, by omega, by decide, by decide, fun v H1 v0 v1 B1 b1 => ?_⟩
    refine q_when (et_test (ev_op (ev_var rfl) ev_c rv_I0)) (fun ht H2 e2 => ?_) (fun ht H2 e2 => ?_)
    · exact s_retU (eu_tup (ea_cons ev_c (ea_cons ev_c (ea_cons ev_c ea_nil))) (by simp)) fun p H3 hp e3 h3 => k p 4 0 0 H3 ⟨by decide, by decide, by decide⟩ (b1.fresh B1 (fresh_back e2 hp)) h3 (B1.ext (e2.trans e3) (by omega)) (b1.ex (e2.trans e3))
    · refine q_when (et_test (ev_op (ev_var rfl) ev_c (rv_eq rfl))) (fun ht H3 e3 => ?_) (fun ht H3 e3 => ?_)
      · have e23 := e2.trans e3
        refine ⟨_, rfl, b, l, ns, n + 1, 60, rfl, B1.ext e23 (Nat.le_refl _), by omega, by decide, by decide, fun v2 H4 v20 v21 B4 b4 => ⟨_, _, rfl, rfl, sz_of (by simp), fun p hp => ?_⟩⟩
        have b14 := (b1.ex e23).trans b4
        exact k p _ _ _ _ ⟨⟨by omega, by omega⟩, by omega, by omega⟩ (b14.fresh B4 hp) upd_same (B4.ext (Ex.new hp) (by omega)) (b14.ex (Ex.new hp))
      · have e23 := e2.trans e3
        refine ⟨_, _, rfl, rfl, ⟨by decide, by decide, by decide⟩, _, _, rfl, rfl, _, rfl, b, l, ns, n + 1, 2, rfl, B1.ext e23 (Nat.le_refl _), by omega, by decide, by decide, fun v2 H4 v20 v21 B4 b4 => ⟨_, _, rfl, rfl, mul64 (by decide) (by omega), _, _, rfl, rfl, _, _, rfl, rfl, mul64 (by decide) (by omega), ?_⟩⟩
        refine ⟨_, _, rfl, rfl, ⟨by decide, by decide, by decide⟩, _, _, rfl, rfl, _, rfl, b, l, ns, n + 2, 3, rfl, B4, by omega, by decide, by decide, fun v3 H5 v30 v31 B5 b5 => ⟨_, _, rfl, rfl, _, _, rfl, rfl, mul64 (by decide) (by omega), sz_of (by simp), fun p hp => ?_⟩⟩
        have b15 := ((b1.ex e23).trans b4).trans b5
        have t6 : (10 : Int) ^ Int.toNat 6 = 1000000 := by decide
        exact k p _ _ _ _ ⟨⟨by omega, by omega⟩, by rw [t6]; omega, by rw [t6]; omega⟩ (b15.fresh B5 hp) upd_same (B5.ext (Ex.new hp) (by omega)) (b15.ex (Ex.new hp))
abbrev sSpot : Stmt := top 32
theorem scSpot : FnScope ["_law_bag_here", "_law_grid_here", "_law_wide", "_law_across", "_law_north", "_law_first"] ["_law_bag_here", "_law_grid_here"] (defScope sSpot) := ⟨rfl, rfl, rfl, by decide +kernel, rfl, by decide +kernel, by decide +kernel⟩
theorem ok_spot (F : FnP K "_law_spot" sSpot f fd) (O__law_pull : Own P w K mg base 1 "_law_pull" ["_law_bag_here", "_law_many"] spPull) : FnOk P w K mg base CX0 2 f fd ["_law_bag_here", "_law_grid_here"] spSpot := by
  have nd := scSpot.nd
  refine F.ok scSpot (fun vs H Q E h => ?_) (fun cdv A outer s H vs Q E hr h => ⟨_, PSs.nox (pss_cons (ps_asg (pv 1) (pg_tup rfl (pgs_cons (pg_name (i := 2) nd rfl (.inl rfl)) (pgs_cons (pg_name (i := 3) nd rfl (.inl rfl)) (pgs_cons (pg_name (i := 4) nd rfl (.inl rfl)) pgs_nil)))))
  (pss_cons (ps_set (i := 5) nd rfl (.inl rfl) (pe_op op_sub (pe_op op_add (pv 3) (Hs.pe_own O__law_pull hr (by first | decide | omega) (by rfl) (pa_cons (pv 0) (pa_cons (pe_op op_add (pe_op op_mulW pe_int (pv 2)) pe_int) pa_nil)))) (pv 2)))
  (pss_one (ps_ret (pe_tup (pa_cons (pv 5) (pa_cons (pe_op op_sub (pe_op op_add (pv 4) (Hs.pe_own O__law_pull hr (by first | decide | omega) (by rfl) (pa_cons (pv 0) (pa_cons (pe_op op_add (pe_op op_mulW pe_int (pv 2)) pe_int) pa_nil)))) (pv 2)) pa_nil))))))), ?_⟩)
  · obtain ⟨b, l, g, ns, n, w, x, y, rfl, _⟩ := h
    rfl
  · obtain ⟨b, l, g, ns, n, w, x, y, rfl, B, hn, hg, G, k⟩ := h
    obtain ⟨⟨w0, w1⟩, gx, gy⟩ := G
    refine ⟨_, rfl, g, _, rfl, st_of hg, rfl, _, _, rfl, _, _, rfl, _, _, rfl, rfl, ?_⟩
    show tSeq _ _ _ [some (.ref b), some (.ref g), some (.int w), some (.int x), some (.int y), none] H
    refine ⟨_, rfl, _, rfl, _, rfl, _, _, rfl, rfl, mul64 (by decide) (by omega), _, _, rfl, rfl, b, l, ns, n, _, rfl, B, by omega, by omega, by omega, fun v H1 v0 v1 B1 b1 => ⟨_, _, rfl, rfl, _, rfl, _, _, rfl, rfl, ?_⟩⟩
    refine ⟨_, rfl, _, rfl, _, rfl, _, rfl, _, _, rfl, rfl, mul64 (by decide) (by omega), _, _, rfl, rfl, b, l, ns, n + 1, _, rfl, B1, by omega, by omega, by omega, fun v2 H2 v20 v21 B2 b2 => ⟨_, _, rfl, rfl, _, rfl, _, _, rfl, rfl, sz_of (by simp), fun p hp => ?_⟩⟩
    have b12 := b1.trans b2
    refine k p (x + v - w, y + v2 - w) _ ⟨?_, ?_⟩ (b12.fresh B2 hp) upd_same (B2.ext (Ex.new hp) (by omega)) (b12.ex (Ex.new hp))
    · show (x + v - w).natAbs ≤ _
      omega
    · show (y + v2 - w).natAbs ≤ _
      omega
end
/-- places that stand -/
def Pts (H : Hp) (ps : List Addr) (zs : List Pt) : Prop := ps.length = zs.length ∧ ∀ (i : Nat) (p : Addr) (z : Pt), ps[i]? = some p → zs[i]? = some z → H p = some (.tup (prV z)) ∧ Near z
theorem lc_spots {m j ib ig n : Nat} {vs : List Nat} {σ : L2.St} {H : Hp} {Q : VK} {b l g : Addr} {ns : List Int} {w x y : Int} {E : XK} (hw : ∀ v, wipe ((wipe σ vs).set j (some v)) vs = wipe σ vs) (h1 : ∀ v, ((wipe σ vs).set j (some v))[ib]? = some (some (.ref b))) (h2 : ∀ v, ((wipe σ vs).set j (some v))[ig]? = some (some (.ref g)))
    (B : BagAt H b l ns n) (hn : n + 2 * m < 900000) (hm : m ≤ 1000) (hg : H g = some (.tup [.int w, .int x, .int y])) (G : Grid w x y)
    (k : ∀ (Dl : Addr) (ps : List Addr) (zs : List Pt) (H' : Hp), H Dl = none → H' Dl = some (.lst (ps.map V.ref)) → ps.length = m → Pts H' ps zs → BagAt H' b l ns (n + 2 * m) → But H H' b → Q (.ref Dl) H') :
    tLc (iRng1 (tCons (tC (.int m)) tNil)) (gName j) tYes (tCall spSpot [] E (tCons (tVar ib) (tCons (tVar ig) tNil))) vs σ H Q := by
  refine ⟨m, rfl, by omega, by omega, fun Dl hD => ?_⟩
  have nDb := bag_ne B hD
  have nDl : Dl ≠ l := Ne.symm (ne_of_none B.ls hD)
  refine lc_range (lo := 0) (n := (m : Int).toNat) (fun i H' => BagAt H' b l ns (n + 2 * i) ∧ But H H' b ∧ ∃ (ps : List Addr) (zs : List Pt), H' Dl = some (.lst (ps.map V.ref)) ∧ ps.length = i ∧ Pts H' ps zs) ⟨B.ext (Ex.new hD) (by omega), But.of (Ex.new hD), [], [], upd_same, rfl, rfl, fun i p x h => by cases h⟩ (fun i H' hi p => ⟨hw _, ?_⟩) (fun H' p => ?_)
  · obtain ⟨Bi, bi, ps, zs, hDl, hlen, hLl, hL⟩ := p
    have hi2 : i < m := by omega
    refine ⟨_, h1 _, _, h2 _, b, l, g, ns, n + 2 * i, w, x, y, rfl, Bi, by omega, bi.tup B hg, G, fun p z H2 hz np hp B2 b2 => ?_⟩
    have hDl2 := b2 _ _ hDl nDb
    have keep : ∀ r us, H2 r = some (.tup us) → upd H2 Dl (.lst (ps.map V.ref ++ [.ref p])) r = some (.tup us) := fun r us h => by
      rw [upd_ne (ne_of h hDl2 (by intro z; cases z))]
      exact h
    refine ⟨_, hDl2, sz_lt (by rw [List.length_map]; omega), bag_upd (B2.ext (Ex.refl _) (by omega)) (Ne.symm nDb) (Ne.symm nDl), fun a o ha hb => ?_, ps ++ [p], zs ++ [z], by rw [upd_same, List.map_append] <;> rfl, by rw [List.length_append, hlen] <;> rfl, by rw [List.length_append, List.length_append, hLl] <;> rfl, fun j r u hr hu => ?_⟩
    · rw [upd_ne (ne_of_none ha hD)]
      exact b2 _ _ (bi _ _ ha hb) hb
    · by_cases hj : j < ps.length
      · rw [List.getElem?_append_left hj] at hr
        rw [List.getElem?_append_left (by omega)] at hu
        obtain ⟨q1, q2⟩ := hL j r u hr hu
        exact ⟨keep _ _ (b2.tup Bi q1), q2⟩
      · rw [List.getElem?_append_right (by omega)] at hr
        rw [List.getElem?_append_right (by omega)] at hu
        have e0 : j - ps.length = 0 := by
          have : j - ps.length < 1 := (List.getElem?_eq_some_iff.mp hr).1
          omega
        have e1 : j - zs.length = 0 := by omega
        rw [e0] at hr
        rw [e1] at hu
        cases hr
        cases hu
        exact ⟨keep _ _ hp, hz⟩
  · obtain ⟨Bi, bi, ps, zs, hDl, hlen, hP⟩ := p
    have em : ((m : Int).toNat) = m := by omega
    rw [em] at Bi hlen
    exact k Dl ps zs H' hD hDl hlen hP Bi bi
end Hs
namespace Hs
open PySem PySem.Spec PyProof.Rows L2 Evl
theorem q_ev {te : TE} {g : TG} {tz : TS} {D : Ends} {σ : L2.St} {H : Hp} (h : te σ H fun x H1 => g x σ H1 (tz D)) : tSeq (tAsg te g) tz D σ H := h
theorem s_ev {te : TE} {g : TG} {D : Ends} {σ : L2.St} {H : Hp} (h : te σ H fun x H1 => g x σ H1 D.nx) : tAsg te g D σ H := h
/-! ### comprehensions whose elements are new tuples -/
/-- new tuples, by their items -/
def Tups (H : Hp) (ps : List Addr) (us : List (List V)) : Prop := ps.length = us.length ∧ ∀ (i : Nat) (p : Addr) (u : List V), ps[i]? = some p → us[i]? = some u → H p = some (.tup u)
theorem Tups.ext {H H' : Hp} {ps : List Addr} {us : List (List V)} (h : Tups H ps us) (e : Ex H H') : Tups H' ps us := ⟨h.1, fun i p u hp hu => e _ _ (h.2 i p u hp hu)⟩
theorem Tups.snoc {H : Hp} {ps : List Addr} {us : List (List V)} {p : Addr} {u : List V} (h : Tups H ps us) (hp : H p = some (.tup u)) : Tups H (ps ++ [p]) (us ++ [u]) := by
  refine ⟨by rw [List.length_append, List.length_append, h.1] <;> rfl, fun j r v hr hv => ?_⟩
  have hl := h.1
  by_cases hj : j < ps.length
  · rw [List.getElem?_append_left hj] at hr
    rw [List.getElem?_append_left (by omega)] at hv
    exact h.2 j r v hr hv
  · rw [List.getElem?_append_right (by omega)] at hr
    rw [List.getElem?_append_right (by omega)] at hv
    have e0 : j - ps.length = 0 := by
      have : j - ps.length < 1 := (List.getElem?_eq_some_iff.mp hr).1
      omega
    have e1 : j - us.length = 0 := by omega
    rw [e0] at hr
    rw [e1] at hv
    cases hr
    cases hv
    exact hp
/-- a new list of new tuples -/
def EvLU (te : TE) (σ : L2.St) (H : Hp) (us : List (List V)) : Prop := ∀ H1, Ex H H1 → ∀ Q : VK, (∀ (p : Addr) (ps : List Addr) (H2 : Hp), H1 p = none → Ex H1 H2 → H2 p = some (.lst (ps.map V.ref)) → Tups H2 ps us → Q (.ref p) H2) → te σ H1 Q
/-- the turns so far -/
def Cu (H : Hp) (us : List (List V)) (Dl : Addr) (i : Nat) (H' : Hp) : Prop := H Dl = none ∧ Ex H H' ∧ ∃ ps : List Addr, H' Dl = some (.lst (ps.map V.ref)) ∧ Tups H' ps (us.take i)
theorem cu_turn {H H' : Hp} {us : List (List V)} {u : List V} {Dl : Addr} {i : Nat} {σ2 : L2.St} {te : TE} (p : Cu H us Dl i H') (hi : i < 50000) (hu : us[i]? = some u) (he : EvU te σ2 H u) :
    tYes σ2 H' fun b H3 => if b = true then te σ2 H3 fun y H4 => ∃ acc, H4 Dl = some (.lst acc) ∧ acc.length < sizeLine ∧ Cu H us Dl (i + 1) (upd H4 Dl (.lst (acc ++ [y]))) else Cu H us Dl (i + 1) H3 := by
  obtain ⟨p1, p2, ps, p3, p4⟩ := p
  show te σ2 H' fun y H4 => ∃ acc, H4 Dl = some (.lst acc) ∧ acc.length < sizeLine ∧ Cu H us Dl (i + 1) (upd H4 Dl (.lst (acc ++ [y])))
  refine he H' p2 _ fun q H4 hq e4 h4 => ⟨ps.map V.ref, e4 _ _ p3, sz_lt ?_, p1, Ex.mut (p2.trans e4) p1, ps ++ [q], by rw [upd_same, List.map_append] <;> rfl, ?_⟩
  · have := p4.1
    rw [List.length_map, this, List.length_take]
    omega
  · have e : us.take (i + 1) = us.take i ++ [u] := by rw [List.take_add_one, hu] <;> rfl
    rw [e]
    have h4D := e4 _ _ p3
    have keep : ∀ r v, H4 r = some (.tup v) → upd H4 Dl (.lst (ps.map V.ref ++ [.ref q])) r = some (.tup v) := fun r v h => by
      rw [upd_ne (ne_of h h4D (by intro z; cases z))]
      exact h
    exact Tups.snoc ⟨p4.1, fun j r v hr hv => keep _ _ (e4 _ _ (p4.2 j r v hr hv))⟩ (keep _ _ h4)
section
variable {K : PySem.W.Frag} {σ : L2.St} {H : Hp} {te : TE}
theorem elu_lcT {a : Addr} {xs : List V} {us : List (List V)} {tl : TE} {j : Nat} {vs : List Nat} (h : Ev tl σ H (.ref a)) (hx : SqT K H a xs) (hz : xs.length ≤ 40000) (hl : us.length = xs.length) (hw : ∀ x, wipe ((wipe σ vs).set j (some x)) vs = wipe σ vs)
    (he : ∀ (i : Nat) (x : V) (u : List V) H1, Ex H H1 → xs[i]? = some x → us[i]? = some u → EvU te ((wipe σ vs).set j (some x)) H1 u) :
    EvLU (tLc (iTup K tl) (gName j) tYes te vs) σ H us := fun H0 e Q q => h H0 e _ fun H1 e1 => ⟨a, rfl, ⟨xs, ex_t (e.trans e1) hx⟩, fun Dl hD =>
  lc_tup (xs := xs) (Cu H1 us Dl) ⟨hD, Ex.new hD, [], upd_same, rfl, fun i p u h => by cases h⟩ (fun i H' _ p => ex_t ((e.trans e1).trans p.2.1) hx) (fun i x H' hi p => by
      have hix := (List.getElem?_eq_some_iff.mp hi).1
      have hiu : i < us.length := by omega
      exact ⟨hw x, cu_turn p (by omega) (List.getElem?_eq_getElem hiu) (he i x _ H1 (e.trans e1) hi (List.getElem?_eq_getElem hiu))⟩)
    (fun H' p => by
      obtain ⟨p1, p2, ps, p3, p4⟩ := p
      rw [← hl, List.take_length] at p4
      exact q Dl ps H' (fresh_back e1 p1) (e1.trans p2) p3 p4)⟩
theorem elu_lcL {a : Addr} {xs : List V} {us : List (List V)} {tl : TE} {j : Nat} {vs : List Nat} (h : Ev tl σ H (.ref a)) (hx : SqL K H a xs) (hz : xs.length ≤ 40000) (hl : us.length = xs.length) (hw : ∀ x, wipe ((wipe σ vs).set j (some x)) vs = wipe σ vs)
    (he : ∀ (i : Nat) (x : V) (u : List V) H1, Ex H H1 → xs[i]? = some x → us[i]? = some u → EvU te ((wipe σ vs).set j (some x)) H1 u) :
    EvLU (tLc (iList K tl) (gName j) tYes te vs) σ H us := fun H0 e Q q => h H0 e _ fun H1 e1 => ⟨a, rfl, ⟨xs, ex_l (e.trans e1) hx⟩, fun Dl hD =>
  lc_list (xs := xs) (Cu H1 us Dl) ⟨hD, Ex.new hD, [], upd_same, rfl, fun i p u h => by cases h⟩ (fun i H' _ p => ex_l ((e.trans e1).trans p.2.1) hx) (fun i x H' hi p => by
      have hix := (List.getElem?_eq_some_iff.mp hi).1
      have hiu : i < us.length := by omega
      exact ⟨hw x, cu_turn p (by omega) (List.getElem?_eq_getElem hiu) (he i x _ H1 (e.trans e1) hi (List.getElem?_eq_getElem hiu))⟩)
    (fun H' p => by
      obtain ⟨p1, p2, ps, p3, p4⟩ := p
      rw [← hl, List.take_length] at p4
      exact q Dl ps H' (fresh_back e1 p1) (e1.trans p2) p3 p4)⟩
/-- over a new tuple -/
theorem elu_lcNT {xs : List V} {us : List (List V)} {tl : TE} {j : Nat} {vs : List Nat} (h : EvU tl σ H xs) (hz : xs.length ≤ 40000) (hl : us.length = xs.length) (hw : ∀ x, wipe ((wipe σ vs).set j (some x)) vs = wipe σ vs)
    (he : ∀ (i : Nat) (x : V) (u : List V) H1, Ex H H1 → xs[i]? = some x → us[i]? = some u → EvU te ((wipe σ vs).set j (some x)) H1 u) :
    EvLU (tLc (iTup K tl) (gName j) tYes te vs) σ H us := fun H0 e Q q => h H0 e _ fun a H1 ha e1 hx => ⟨a, rfl, ⟨xs, st_of hx⟩, fun Dl hD =>
  lc_tup (xs := xs) (Cu H1 us Dl) ⟨hD, Ex.new hD, [], upd_same, rfl, fun i p u h => by cases h⟩ (fun i H' _ p => st_of (p.2.1 a _ hx)) (fun i x H' hi p => by
      have hix := (List.getElem?_eq_some_iff.mp hi).1
      have hiu : i < us.length := by omega
      exact ⟨hw x, cu_turn p (by omega) (List.getElem?_eq_getElem hiu) (he i x _ H1 (e.trans e1) hi (List.getElem?_eq_getElem hiu))⟩)
    (fun H' p => by
      obtain ⟨p1, p2, ps, p3, p4⟩ := p
      rw [← hl, List.take_length] at p4
      exact q Dl ps H' (fresh_back e1 p1) (e1.trans p2) p3 p4)⟩
theorem el_lcT' {a : Addr} {xs : List V} {tl : TE} {j : Nat} {vs : List Nat} (v : Nat → V) (h : Ev tl σ H (.ref a)) (hx : SqT K H a xs) (hz : xs.length ≤ 40000) (hw : ∀ x, wipe ((wipe σ vs).set j (some x)) vs = wipe σ vs)
    (he : ∀ (i : Nat) (x : V) H1, Ex H H1 → xs[i]? = some x → Ev te ((wipe σ vs).set j (some x)) H1 (v i)) :
    EvL (tLc (iTup K tl) (gName j) tYes te vs) σ H (given xs.length (fun _ => true) v) := fun H0 e Q q => h H0 e _ fun H1 e1 => ⟨a, rfl, ⟨xs, ex_t (e.trans e1) hx⟩, fun Dl hD =>
  lc_tup (xs := xs) (Cw H1 (fun _ => true) v Dl) ⟨hD, Ex.new hD, upd_same⟩ (fun i H' _ p => ex_t ((e.trans e1).trans p.2.1) hx) (fun i x H' hi p => ⟨hw x, cw_turn p (by have := (List.getElem?_eq_some_iff.mp hi).1; omega) (fun H1 _ Q q => q H1 (Ex.refl H1)) (fun _ => he i x H1 (e.trans e1) hi)⟩)
    (fun H' p => q Dl H' (fresh_back e1 p.1) (e1.trans p.2.1) p.2.2)⟩
theorem el_lcL' {a : Addr} {xs : List V} {tl : TE} {j : Nat} {vs : List Nat} (v : Nat → V) (h : Ev tl σ H (.ref a)) (hx : SqL K H a xs) (hz : xs.length ≤ 40000) (hw : ∀ x, wipe ((wipe σ vs).set j (some x)) vs = wipe σ vs)
    (he : ∀ (i : Nat) (x : V) H1, Ex H H1 → xs[i]? = some x → Ev te ((wipe σ vs).set j (some x)) H1 (v i)) :
    EvL (tLc (iList K tl) (gName j) tYes te vs) σ H (given xs.length (fun _ => true) v) := el_lcL (fun _ => true) v h hx hz hw (fun _ _ H1 _ _ H2 _ Q q => q H2 (Ex.refl H2)) fun i x H1 e1 hx _ => he i x H1 e1 hx
/-- tuple([..]) -/
theorem eu_tuple {tl : TE} {xs : List V} (h : EvL tl σ H xs) : EvU (tCB (fun xs H Q => ∃ p ys, xs = [.ref p] ∧ ((SqL K H p ys ∧ ∀ l, H l = none → Q (.ref l) (upd H l (.tup ys))) ∨ (SqT K H p ys ∧ Q (.ref p) H))) (tCons tl tNil)) σ H xs := fun H1 e Q q =>
  h H1 e _ fun p H2 _ e2 h2 => ⟨p, xs, rfl, .inl ⟨sq_of h2, fun l hl => q l _ (fresh_back e2 hl) (e2.trans (Ex.new hl)) upd_same⟩⟩
/-! ### the law's own comparison, of lists of plain values -/
theorem sm_flat {d : Nat} {v : V} (h : flatV v = true) : Sm K H (d + 1) v v := .inl ⟨rfl, h⟩
theorem sm_row {d : Nat} {xs : List V} (hf : xs.all flatV = true) (i : Nat) (x y : V) (hx : xs[i]? = some x) (hy : xs[i]? = some y) : Sm K H (d + 1) x y := by
  have e : x = y := Option.some.inj (hx.symm.trans hy)
  subst e
  exact sm_flat (List.all_eq_true.mp hf x (List.mem_of_getElem? hx))
theorem sm_lstF {d : Nat} {p q : Addr} {xs : List V} (h1 : SqL K H p xs) (h2 : SqL K H q xs) (hf : xs.all flatV = true) (hz : xs.length ≤ 1000) : Sm K H (d + 2) (.ref p) (.ref q) := .inr ⟨p, q, xs, xs, rfl, rfl, .inl ⟨h1, h2⟩, rfl, hz, sm_row hf⟩
theorem sm_tupF {d : Nat} {p q : Addr} {xs : List V} (h1 : SqT K H p xs) (h2 : SqT K H q xs) (hf : xs.all flatV = true) (hz : xs.length ≤ 1000) : Sm K H (d + 2) (.ref p) (.ref q) := .inr ⟨p, q, xs, xs, rfl, rfl, .inr ⟨h1, h2⟩, rfl, hz, sm_row hf⟩
theorem et_sameL {t1 t2 : TE} {xs : List V} {E : XK} {d : Nat} (h1 : EvL t1 σ H xs) (h2 : EvL t2 σ H xs) (hf : xs.all flatV = true) (hz : xs.length ≤ 1000) : EvT (tNot (tB (tCall (spSame K (d + 2)) [] E (tCons t1 (tCons t2 tNil))))) σ H false := fun H0 e0 Q q =>
  h1 H0 e0 _ fun p H1 n1 e1 b1 => h2 H1 (e0.trans e1) _ fun r H2 n2 e2 b2 => ⟨_, _, rfl, sm_lstF (sq_of (e2 _ _ b1)) (sq_of b2) hf hz, fun H3 e3 => ⟨true, rfl, q H3 ((e1.trans e2).trans e3)⟩⟩
/-! ### the program's functions, by their readings -/
theorem ev_side {n i j k : Nat} {p q r : Addr} {x y z : Pt} {E : XK} (h1 : σ[i]? = some (some (.ref p))) (h2 : σ[j]? = some (some (.ref q))) (h3 : σ[k]? = some (some (.ref r))) (hx : Pl K n H p x) (hy : Pl K n H q y) (hz : Pl K n H r z) :
    Ev (tCall (spSide K n) [] E (tCons (tVar i) (tCons (tVar j) (tCons (tVar k) tNil)))) σ H (.int (sgn (cross x y z))) := ev_call (ea_cons (ev_var h1) (ea_cons (ev_var h2) (ea_cons (ev_var h3) ea_nil))) fun H1 e1 Q' q' E' => ⟨p, q, r, x, y, z, rfl, hx.ext e1, hy.ext e1, hz.ext e1, q'⟩
theorem ev_cross {n i j k : Nat} {p q r : Addr} {x y z : Pt} {E : XK} (h1 : σ[i]? = some (some (.ref p))) (h2 : σ[j]? = some (some (.ref q))) (h3 : σ[k]? = some (some (.ref r))) (hx : Pl K n H p x) (hy : Pl K n H q y) (hz : Pl K n H r z) :
    Ev (tCall (spCross K n) [] E (tCons (tVar i) (tCons (tVar j) (tCons (tVar k) tNil)))) σ H (.int (cross x y z)) := ev_call (ea_cons (ev_var h1) (ea_cons (ev_var h2) (ea_cons (ev_var h3) ea_nil))) fun H1 e1 Q' q' E' => ⟨p, q, r, x, y, z, rfl, hx.ext e1, hy.ext e1, hz.ext e1, q'⟩
end
theorem sgn_neg (i : Int) : sgn (-i) = -sgn i := by
  unfold sgn
  split <;> split <;> (try split) <;> (try split) <;> omega
theorem cross_swap (a b c : Pt) : cross b a c = -cross a b c := by
  unfold cross
  grind
theorem on_self (a b : Pt) : OnP a b a := by
  unfold OnP cross mn mx
  refine ⟨by simp [Int.sub_self], ?_, ?_, ?_, ?_⟩ <;> split <;> omega
theorem due_sgn (i : Int) : (if i < 0 then -1 else if decide (i > 0) = true then 1 else 0) = sgn i := by
  unfold sgn
  split <;> (try split) <;> (try split) <;> (try split) <;> simp_all <;> omega
end Hs
namespace Hs
open PySem PySem.Spec PyProof.Rows L2
/-! ### for x in zip(*rows), x a name: the tuple that was handed out may be held or gone -/
abbrev IsZipF (h : Heap) (z TI TO : Addr) (f0 : Value) (f1 : Bool) : Prop := h.get? z = some { cls := .type "zip", dict := none, data := .fields #[f0, .bool f1, .bool false, .ref TI, .ref TO], slots := #[] }
abbrev IsTupA (h : Heap) (T : Addr) (arr : Array Value) : Prop := h.get? T = some { cls := .type "tuple", data := .seq arr }
def OwnF (f0 : Value) : Prop := f0 = .none ∨ ∃ T : Nat, f0 = rawInt T
theorem _root_.PySem.Heap.IsTuple.at' {h h' : Heap} {l : Addr} {xs : Array Value} (x : h.IsTuple l xs) (k : ∀ o, h.get? l = some o → h'.get? l = some o) : h'.IsTuple l xs := by
  obtain ⟨o, ho, r⟩ := x
  exact ⟨o, k o ho, r⟩
theorem set2 {arr : Array Value} {x1 x2 : Value} (h : arr.size = 2) : ((arr).setIfInBounds 0 x1).setIfInBounds 1 x2 = #[x1, x2] := by
  obtain ⟨l⟩ := arr
  match l, h with
  | [a, b], _ => rfl
theorem set3 {arr : Array Value} {x1 x2 x3 : Value} (h : arr.size = 3) : (((arr).setIfInBounds 0 x1).setIfInBounds 1 x2).setIfInBounds 2 x3 = #[x1, x2, x3] := by
  obtain ⟨l⟩ := arr
  match l, h with
  | [a, b, c], _ => rfl
section
variable {prog : Program} {w : World} {A : Around} {E : Value → Shared → Prop} {s : Shared}
theorem upSeq {T : Addr} {arr : Array Value} {x : Value} {k : Nat} {Q : Unit → Shared → Prop} (hT : IsTupA s.heap T arr) (hn : arr.size ≤ 10) (h : ∀ h', IsTupA h' T (arr.setIfInBounds k x) → Heap.SameBut T s.heap h' → Q () { s with heap := h' }) : wpAny (model prog w) A (updateSeq T (·.setIfInBounds k x)) Q E s := by
  refine wpAny_updateSeq hT rfl (h _ ?_ (Heap.SameBut.update ..)) (hz := Nat.le_trans hn (by decide)) (_hz' := by rw [Array.size_setIfInBounds]; exact Nat.le_trans hn (by decide))
  rw [IsTupA, Heap.get?_update_self _ hT rfl]
  simp [Obj.mapSeq]
theorem owned_any {z TI TO : Addr} {f0 : Value} {f1 : Bool} {Q : Bool → Shared → Prop} (hz : IsZipF s.heap z TI TO f0 f1) (hf0 : OwnF f0) (ht : Q true s) (hf : ∀ h', IsZipF h' z TI TO f0 true → Heap.SameBut z s.heap h' → Q false { s with heap := h' }) :
    wpAny (model prog w) A (Builtin.SmallTypes.ownedTupleIsFree (.ref z)) Q E s := by
  unfold Builtin.SmallTypes.ownedTupleIsFree
  rcases hf0 with rfl | ⟨T, rfl⟩
  · exact wpAny_bind (wpAny_field hz rfl (x := .none) rfl (wpAny_pure ht))
  · refine wpAny_bind (wpAny_field hz rfl (x := rawInt T) rfl ?_)
    show wpAny _ _ (loadIfAlive ((T : Int).toNat) >>= _) _ _ _
    rw [Int.toNat_natCast]
    have al : ∀ {Q' : Option Obj → Shared → Prop}, Q' (s.heap.get? T) s → wpAny (model prog w) A (loadIfAlive T) Q' E s := fun h => fun _ _ _ => h
    refine wpAny_bind (al ?_)
    cases hg : s.heap.get? T with
    | none =>
      simp only [Option.isNone_none, if_true]
      exact wpAny_pure ht
    | some o =>
      simp only [Option.isNone_some, Bool.false_eq_true, if_false]
      refine wpAny_bind (wpAny_field hz rfl (x := .bool f1) rfl ?_)
      cases f1 with
      | true =>
        rw [if_neg (show ¬ ((Value.bool true != Value.bool true) = true) from Bool.false_ne_true)]
        exact wpAny_pure (hf s.heap hz (Heap.SameBut.refl _ _))
      | false =>
        rw [if_pos (show (Value.bool false != Value.bool true) = true from rfl)]
        exact wpAny_bind (wpAny_setField_rec hz (by simp) fun h₁ hz₁ hs₁ => wpAny_pure (hf h₁ hz₁ hs₁))
theorem pyIter_zipF {z TI TO : Addr} {f0 : Value} {f1 : Bool} {Q : Value → Shared → Prop} (hz : IsZipF s.heap z TI TO f0 f1) (h : Q (.ref z) s) : wpAny (model prog w) A (pyIter (.ref z)) Q E s := by
  have hT : s.TypeIs (.ref z) "zip" := ⟨_, hz, rfl⟩
  refine wpAny_pyIter_slot hT F.slot_zip_iter (wpAny_call_entry F.slot_zip_iter hT F.entry_zip_iter ?_ (F.args_zip_iter_1 _))
  show wpAny _ _ (ret (.ref z)) _ _ s
  exact wpAny_pure ⟨_, rfl, "zip", _, hT, F.slot_zip_next.lookup, h⟩
end
end Hs
namespace Hs
open PySem PySem.Spec PyProof.Rows L2
structure ZA2 (z TI TO i1 i2 l1 l2 : Addr) : Prop where
  TIz : TI ≠ z
  TOz : TO ≠ z
  TITO : TI ≠ TO
  i1z : i1 ≠ z
  TIi1 : TI ≠ i1
  TOi1 : TO ≠ i1
  i2z : i2 ≠ z
  TIi2 : TI ≠ i2
  TOi2 : TO ≠ i2
  i1i2 : i1 ≠ i2
  l1z : l1 ≠ z
  l1TO : l1 ≠ TO
  l1i1 : l1 ≠ i1
  l1i2 : l1 ≠ i2
  l2z : l2 ≠ z
  l2TO : l2 ≠ TO
  l2i1 : l2 ≠ i1
  l2i2 : l2 ≠ i2
section
variable {prog : Program} {w : World} {A : Around} {E : Value → Shared → Prop} {s : Shared}
theorem z2_next_item {z TI TO i1 i2 l1 l2 : Addr} {k : Nat} {xs1 xs2 : Array Value} {f0 : Value} {f1 : Bool} {arr : Array Value} {x1 x2 : Value} {Q : Value → Shared → Prop} (D : ZA2 z TI TO i1 i2 l1 l2) (hz : IsZipF s.heap z TI TO f0 f1) (hf0 : OwnF f0) (hTI : IsTupA s.heap TI #[.ref i1, .ref i2]) (hTO : IsTupA s.heap TO arr) (hsz : arr.size = 2) (h1 : s.heap.IsTupleIter i1 l1 k) (h2 : s.heap.IsTupleIter i2 l2 k) (hl1 : s.heap.IsTuple l1 xs1) (hl2 : s.heap.IsTuple l2 xs2) (hx1 : xs1[k]? = some x1) (hx2 : xs2[k]? = some x2)
    (hQ : ∀ h' f0' f1' arr', OwnF f0' → IsZipF h' z TI TO f0' f1' → IsTupA h' TO arr' → arr'.size = 2 → h'.IsTupleIter i1 l1 (k + 1) → h'.IsTupleIter i2 l2 (k + 1) → IsTupA h' s.heap.objs.size #[x1, x2] → h'.objs.size = s.heap.objs.size + 1 → (∀ c o, c ≠ z → c ≠ TO → c ≠ i1 → c ≠ i2 → s.heap.get? c = some o → h'.get? c = some o) → Q (.ref s.heap.objs.size) { s with heap := h' }) :
    wpAny (model prog w) A (Builtin.«zip.__next__» ⟨[.ref z], []⟩) (fun fin s' => ∃ v, fin = .done (.ret v) ∧ Q v s') E s := by
  show wpAny _ _ (field (.ref z) 2 >>= _) _ _ _
  refine wpAny_bind (wpAny_field hz rfl (x := .bool false) rfl ?_)
  show wpAny _ _ (field (.ref z) 3 >>= _) _ _ _
  refine wpAny_bind (wpAny_field hz rfl (x := .ref TI) rfl ?_)
  refine wpAny_bind (wpAny_seqItems hTI rfl ?_)
  show wpAny _ _ (Builtin.SmallTypes.ownedTupleIsFree (.ref z) >>= _) _ _ _
  refine wpAny_bind (owned_any hz hf0 ?_ fun h₁ hz₁ hs₁ => ?_)
  · simp only [if_true]
    refine wpAny_bind (wpAny_rule ?_)
    refine wpAny_bind (wpAny_field hz rfl (x := .ref TO) rfl ?_)
    refine wpAny_bind (wpAny_setField_rec hz (by simp) fun h₀ hz₀ hs₀ => ?_)
    replace hz₀ : IsZipF h₀ z TI TO .ellipsis f1 := hz₀
    have K0 : ∀ c o, c ≠ z → s.heap.get? c = some o → h₀.get? c = some o := fun c o c1 e => hs₀.extBut _ _ c1 e
    have N0 : h₀.objs.size = s.heap.objs.size := hs₀.1
    have T0 : IsTupA h₀ TO arr := K0 _ _ D.TOz hTO
    have J1_0 : h₀.IsTupleIter i1 l1 k := h1.at fun o e => K0 _ o D.i1z e
    have L1_0 : h₀.IsTuple l1 xs1 := hl1.at' fun o e => K0 _ o D.l1z e
    have J2_0 : h₀.IsTupleIter i2 l2 k := h2.at fun o e => K0 _ o D.i2z e
    have L2_0 : h₀.IsTuple l2 xs2 := hl2.at' fun o e => K0 _ o D.l2z e
    refine wpAny_bind ?_
    simp only [List.zipIdx_cons, List.zipIdx_nil, List.forIn_cons, List.forIn_nil]
    refine wpAny_bind (wpAny_bind (wpAny_onRaise ?_))
    show wpAny _ _ (Builtin.SmallTypes.nextOf (.ref i1) >>= _) _ _ _
    refine wpAny_bind (RZ.nextOf_tuple_item J1_0 L1_0 hx1 fun g1 m1 gs1 => wpAny_pure ?_)
    have V1 : IsTupA g1 TO (arr) := gs1.extBut _ _ D.TOi1 T0
    refine wpAny_bind (wpAny_seqItems V1 rfl ?_)
    refine wpAny_bind (upSeq V1 (by simp [hsz]) fun u1 T1 us1 => ?_)
    refine wpAny_bind (wpAny_letGo (wpAny_pure ?_))
    have J1_1 : u1.IsTupleIter i1 l1 (k + 1) := m1.extBut us1.extBut D.TOi1.symm
    have L1_1 : u1.IsTuple l1 xs1 := (L1_0.extBut gs1.extBut D.l1i1).extBut us1.extBut D.l1TO
    have J2_1 : u1.IsTupleIter i2 l2 k := (J2_0.extBut gs1.extBut D.i1i2.symm).extBut us1.extBut D.TOi2.symm
    have L2_1 : u1.IsTuple l2 xs2 := (L2_0.extBut gs1.extBut D.l2i1).extBut us1.extBut D.l2TO
    have K1 : ∀ c o, c ≠ z → c ≠ TO → c ≠ i1 → s.heap.get? c = some o → u1.get? c = some o := fun c o c1 c2 q1 e => us1.extBut _ _ c2 (gs1.extBut _ _ q1 (K0 c o c1  e))
    have Z1 : IsZipF u1 z TI TO .ellipsis f1 := us1.extBut _ _ D.TOz.symm (gs1.extBut _ _ D.i1z.symm hz₀)
    have N1 : u1.objs.size = s.heap.objs.size := by rw [us1.1, gs1.1, N0]
    refine wpAny_bind (wpAny_bind (wpAny_onRaise ?_))
    show wpAny _ _ (Builtin.SmallTypes.nextOf (.ref i2) >>= _) _ _ _
    refine wpAny_bind (RZ.nextOf_tuple_item J2_1 L2_1 hx2 fun g2 m2 gs2 => wpAny_pure ?_)
    have V2 : IsTupA g2 TO ((arr).setIfInBounds 0 x1) := gs2.extBut _ _ D.TOi2 T1
    refine wpAny_bind (wpAny_seqItems V2 rfl ?_)
    refine wpAny_bind (upSeq V2 (by simp [hsz]) fun u2 T2 us2 => ?_)
    refine wpAny_bind (wpAny_letGo (wpAny_pure ?_))
    have J1_2 : u2.IsTupleIter i1 l1 (k + 1) := (J1_1.extBut gs2.extBut D.i1i2).extBut us2.extBut D.TOi1.symm
    have L1_2 : u2.IsTuple l1 xs1 := (L1_1.extBut gs2.extBut D.l1i2).extBut us2.extBut D.l1TO
    have J2_2 : u2.IsTupleIter i2 l2 (k + 1) := m2.extBut us2.extBut D.TOi2.symm
    have L2_2 : u2.IsTuple l2 xs2 := (L2_1.extBut gs2.extBut D.l2i2).extBut us2.extBut D.l2TO
    have K2 : ∀ c o, c ≠ z → c ≠ TO → c ≠ i1 → c ≠ i2 → s.heap.get? c = some o → u2.get? c = some o := fun c o c1 c2 q1 q2 e => us2.extBut _ _ c2 (gs2.extBut _ _ q2 (K1 c o c1 c2 q1 e))
    have Z2 : IsZipF u2 z TI TO .ellipsis f1 := us2.extBut _ _ D.TOz.symm (gs2.extBut _ _ D.i2z.symm Z1)
    have N2 : u2.objs.size = s.heap.objs.size := by rw [us2.1, gs2.1, N1]
    refine wpAny_pure ?_
    refine wpAny_bind (wpAny_seqItems T2 rfl ?_)
    have ea : (((arr).setIfInBounds 0 x1).setIfInBounds 1 x2) = #[x1, x2] := set2 hsz
    rw [ea] at T2 ⊢
    refine wpAny_bind (wpAny_newTuple ?_)
    show wpAny _ _ (Builtin.SmallTypes.ownedTupleHandOut (.ref z) (.ref u2.objs.size) >>= _) _ _ _
    refine wpAny_bind ?_
    unfold Builtin.SmallTypes.ownedTupleHandOut
    have zlt : z < u2.objs.size := Heap.lt_size Z2
    have hz₆ : IsZipF (u2.push { cls := .type "tuple", data := .seq #[x1, x2] }) z TI TO .ellipsis f1 := Heap.get?_push_of_some _ Z2
    refine wpAny_bind (wpAny_setField_rec hz₆ (by simp) fun h₇ hz₇ hs₇ => ?_)
    replace hz₇ : IsZipF h₇ z TI TO (rawInt u2.objs.size) f1 := hz₇
    refine wpAny_setField_rec hz₇ (by simp) fun h₈ hz₈ hs₈ => ?_
    replace hz₈ : IsZipF h₈ z TI TO (rawInt u2.objs.size) false := hz₈
    have up : ∀ c o, c ≠ z → u2.get? c = some o → h₈.get? c = some o := fun c o c1 e => hs₈.extBut _ _ c1 (hs₇.extBut _ _ c1 (Heap.get?_push_of_some _ e))
    have hT₈ : IsTupA h₈ u2.objs.size #[x1, x2] := hs₈.extBut _ _ (Nat.ne_of_gt zlt) (hs₇.extBut _ _ (Nat.ne_of_gt zlt) (Heap.get?_push_size _ rfl))
    have hz8 : h₈.objs.size = u2.objs.size + 1 := by rw [hs₈.1, hs₇.1, Heap.size_push]
    refine wpAny_pure ⟨_, rfl, ?_⟩
    show Q (.ref u2.objs.size) _
    rw [N2] at hz₈ hT₈ hz8 ⊢
    exact hQ h₈ _ _ _ (.inr ⟨_, rfl⟩) hz₈ (up _ _ D.TOz T2) rfl (J1_2.at fun o e => up _ o D.i1z e) (J2_2.at fun o e => up _ o D.i2z e) hT₈ hz8 fun c o c1 c2 q1 q2 e => up c o c1 (K2 c o c1 c2 q1 q2 e)
  · simp only [Bool.false_eq_true, if_false]
    have K0 : ∀ c o, c ≠ z → s.heap.get? c = some o → h₁.get? c = some o := fun c o c1 e => hs₁.extBut _ _ c1 e
    have J1_0 : h₁.IsTupleIter i1 l1 k := h1.at fun o e => K0 _ o D.i1z e
    have L1_0 : h₁.IsTuple l1 xs1 := hl1.at' fun o e => K0 _ o D.l1z e
    have J2_0 : h₁.IsTupleIter i2 l2 k := h2.at fun o e => K0 _ o D.i2z e
    have L2_0 : h₁.IsTuple l2 xs2 := hl2.at' fun o e => K0 _ o D.l2z e
    refine wpAny_bind ?_
    rw [← Array.forIn_toList]
    simp only [List.forIn_cons, List.forIn_nil]
    refine wpAny_bind (wpAny_bind (wpAny_holding ?_))
    show wpAny _ _ (Builtin.SmallTypes.nextOf (.ref i1) >>= _) _ _ _
    refine wpAny_bind (RZ.nextOf_tuple_item (s := { s with heap := h₁ }) J1_0 L1_0 hx1 fun g1 m1 gs1 => wpAny_pure ?_)
    refine wpAny_pure ?_
    have J1_1 : g1.IsTupleIter i1 l1 (k + 1) := m1
    have L1_1 : g1.IsTuple l1 xs1 := L1_0.extBut gs1.extBut D.l1i1
    have J2_1 : g1.IsTupleIter i2 l2 k := J2_0.extBut gs1.extBut D.i1i2.symm
    have L2_1 : g1.IsTuple l2 xs2 := L2_0.extBut gs1.extBut D.l2i1
    refine wpAny_bind (wpAny_bind (wpAny_holding ?_))
    show wpAny _ _ (Builtin.SmallTypes.nextOf (.ref i2) >>= _) _ _ _
    refine wpAny_bind (RZ.nextOf_tuple_item (s := { s with heap := g1 }) J2_1 L2_1 hx2 fun g2 m2 gs2 => wpAny_pure ?_)
    refine wpAny_pure (wpAny_pure ?_)
    have J1_2 : g2.IsTupleIter i1 l1 (k + 1) := J1_1.extBut gs2.extBut D.i1i2
    have L1_2 : g2.IsTuple l1 xs1 := L1_1.extBut gs2.extBut D.l1i2
    have J2_2 : g2.IsTupleIter i2 l2 (k + 1) := m2
    have L2_2 : g2.IsTuple l2 xs2 := L2_1.extBut gs2.extBut D.l2i2
    show wpAny _ _ (newTuple [x1, x2] >>= _) _ _ _
    refine wpAny_bind (wpAny_newTuple ?_)
    have hsz' : g2.objs.size = s.heap.objs.size := by rw [gs2.1, gs1.1, hs₁.1]
    have hz3 : IsZipF g2 z TI TO f0 true := (gs2.extBut _ _ D.i2z.symm (gs1.extBut _ _ D.i1z.symm hz₁))
    have hk : ∀ c o, c ≠ z → c ≠ i1 → c ≠ i2 → s.heap.get? c = some o → g2.get? c = some o := fun c o c1 q1 q2 e => (gs2.extBut _ _ q2 (gs1.extBut _ _ q1 (K0 c o c1 e)))
    refine wpAny_pure ⟨_, rfl, ?_⟩
    show Q (.ref g2.objs.size) _
    have hp : IsTupA (g2.push { cls := .type "tuple", data := .seq #[x1, x2] }) g2.objs.size #[x1, x2] := Heap.get?_push_size _ rfl
    have hz4 : (g2.push { cls := .type "tuple", data := .seq #[x1, x2] }).objs.size = g2.objs.size + 1 := Heap.size_push ..
    rw [hsz'] at hp hz4 ⊢
    exact hQ _ _ _ _ hf0 (Heap.get?_push_of_some _ hz3) (Heap.get?_push_of_some _ (hk _ _ D.TOz D.TOi1 D.TOi2 hTO)) hsz (J1_2.at fun o e => Heap.get?_push_of_some _ e) (J2_2.at fun o e => Heap.get?_push_of_some _ e) hp hz4 fun c o c1 c2 q1 q2 e => Heap.get?_push_of_some _ (hk c o c1 q1 q2 e)
theorem z2_next_end {z TI TO i1 i2 l1 l2 : Addr} {k : Nat} {xs1 xs2 : Array Value} {f0 : Value} {f1 : Bool} {arr : Array Value} {Q : Fin → Shared → Prop} (hh : A.handled = none) (D : ZA2 z TI TO i1 i2 l1 l2) (hz : IsZipF s.heap z TI TO f0 f1) (hf0 : OwnF f0) (hTI : IsTupA s.heap TI #[.ref i1, .ref i2]) (hTO : IsTupA s.heap TO arr) (hsz : arr.size = 2) (h1 : s.heap.IsTupleIter i1 l1 k) (h2 : s.heap.IsTupleIter i2 l2 k) (hl1 : s.heap.IsTuple l1 xs1) (hl2 : s.heap.IsTuple l2 xs2) (hx : xs1[k]? = none)
    (hE : ∀ h' e, (∀ c o, c ≠ z → c ≠ TO → c ≠ i1 → c ≠ i2 → s.heap.get? c = some o → h'.get? c = some o) → (∃ o, h'.get? e = some o ∧ o.cls = .type "StopIteration") → E (.ref e) { s with heap := h' }) :
    wpAny (model prog w) A (Builtin.«zip.__next__» ⟨[.ref z], []⟩) Q E s := by
  show wpAny _ _ (field (.ref z) 2 >>= _) _ _ _
  refine wpAny_bind (wpAny_field hz rfl (x := .bool false) rfl ?_)
  show wpAny _ _ (field (.ref z) 3 >>= _) _ _ _
  refine wpAny_bind (wpAny_field hz rfl (x := .ref TI) rfl ?_)
  refine wpAny_bind (wpAny_seqItems hTI rfl ?_)
  show wpAny _ _ (Builtin.SmallTypes.ownedTupleIsFree (.ref z) >>= _) _ _ _
  refine wpAny_bind (owned_any hz hf0 ?_ fun h₁ hz₁ hs₁ => ?_)
  · simp only [if_true]
    refine wpAny_bind (wpAny_rule ?_)
    refine wpAny_bind (wpAny_field hz rfl (x := .ref TO) rfl ?_)
    refine wpAny_bind (wpAny_setField_rec hz (by simp) fun h₀ hz₀ hs₀ => ?_)
    replace hz₀ : IsZipF h₀ z TI TO .ellipsis f1 := hz₀
    refine wpAny_bind ?_
    simp only [List.zipIdx_cons, List.zipIdx_nil, List.forIn_cons, List.forIn_nil]
    refine wpAny_bind (wpAny_bind (wpAny_onRaise ?_))
    show wpAny _ _ (Builtin.SmallTypes.nextOf (.ref i1) >>= _) _ _ _
    refine wpAny_bind (RZ.nextOf_tuple_end hh (h1.extBut hs₀.extBut D.i1z) (hl1.extBut hs₀.extBut D.l1z) hx fun h₂ e hs₂ he => ?_)
    obtain ⟨oe, hoe, hce⟩ := he
    have hz₂ : IsZipF h₂ z TI TO .ellipsis f1 := hs₂ _ _ D.i1z.symm hz₀
    have hez : e ≠ z := fun x => by subst x; rw [hz₂] at hoe; cases hoe; simp at hce
    refine wpAny_setField_rec hz₂ (by simp) fun h₃ _ hs₃ => hE h₃ e (fun c o c1 _ c3 _ x => hs₃.extBut _ _ c1 (hs₂ _ _ c3 (hs₀.extBut _ _ c1 x))) ⟨oe, hs₃.extBut _ _ hez hoe, hce⟩
  · simp only [Bool.false_eq_true, if_false]
    refine wpAny_bind ?_
    rw [← Array.forIn_toList]
    simp only [List.forIn_cons, List.forIn_nil]
    refine wpAny_bind (wpAny_bind (wpAny_holding ?_))
    show wpAny _ _ (Builtin.SmallTypes.nextOf (.ref i1) >>= _) _ _ _
    refine wpAny_bind (RZ.nextOf_tuple_end (s := { s with heap := h₁ }) hh (h1.extBut hs₁.extBut D.i1z) (hl1.extBut hs₁.extBut D.l1z) hx fun h₂ e hs₂ he => ?_)
    exact hE h₂ e (fun c o c1 _ c3 _ x => hs₂ _ _ c3 (hs₁.extBut _ _ c1 x)) he
theorem z2_pyNext_item {z TI TO i1 i2 l1 l2 : Addr} {k : Nat} {xs1 xs2 : Array Value} {f0 : Value} {f1 : Bool} {arr : Array Value} {x1 x2 : Value} {Q : Option Value → Shared → Prop} (D : ZA2 z TI TO i1 i2 l1 l2) (hz : IsZipF s.heap z TI TO f0 f1) (hf0 : OwnF f0) (hTI : IsTupA s.heap TI #[.ref i1, .ref i2]) (hTO : IsTupA s.heap TO arr) (hsz : arr.size = 2) (h1 : s.heap.IsTupleIter i1 l1 k) (h2 : s.heap.IsTupleIter i2 l2 k) (hl1 : s.heap.IsTuple l1 xs1) (hl2 : s.heap.IsTuple l2 xs2) (hx1 : xs1[k]? = some x1) (hx2 : xs2[k]? = some x2)
    (hQ : ∀ h' f0' f1' arr', OwnF f0' → IsZipF h' z TI TO f0' f1' → IsTupA h' TO arr' → arr'.size = 2 → h'.IsTupleIter i1 l1 (k + 1) → h'.IsTupleIter i2 l2 (k + 1) → IsTupA h' s.heap.objs.size #[x1, x2] → h'.objs.size = s.heap.objs.size + 1 → (∀ c o, c ≠ z → c ≠ TO → c ≠ i1 → c ≠ i2 → s.heap.get? c = some o → h'.get? c = some o) → Q (some (.ref s.heap.objs.size)) { s with heap := h' }) : wpAny (model prog w) A (pyNext (.ref z)) Q E s := by
  have hT : s.TypeIs (.ref z) "zip" := ⟨_, hz, rfl⟩
  unfold pyNext
  exact wpAny_bind (wpAny_attempt (wpAny_callSpecial?_slot (name := Str.ofString "__next__") hT F.slot_zip_next
    (wpAny_call_entry F.slot_zip_next hT F.entry_zip_next
      (z2_next_item D hz hf0 hTI hTO hsz h1 h2 hl1 hl2 hx1 hx2 fun h' b0 b1 b2 b3 b4 b5 b6 b7 b8 b9 b10 b11 => wpAny_pure (hQ h' b0 b1 b2 b3 b4 b5 b6 b7 b8 b9 b10 b11)) (F.args_zip_next_1 _))))
theorem z2_pyNext_end {z TI TO i1 i2 l1 l2 : Addr} {k : Nat} {xs1 xs2 : Array Value} {f0 : Value} {f1 : Bool} {arr : Array Value} {Q : Option Value → Shared → Prop} (hh : A.handled = none) (D : ZA2 z TI TO i1 i2 l1 l2) (hz : IsZipF s.heap z TI TO f0 f1) (hf0 : OwnF f0) (hTI : IsTupA s.heap TI #[.ref i1, .ref i2]) (hTO : IsTupA s.heap TO arr) (hsz : arr.size = 2) (h1 : s.heap.IsTupleIter i1 l1 k) (h2 : s.heap.IsTupleIter i2 l2 k) (hl1 : s.heap.IsTuple l1 xs1) (hl2 : s.heap.IsTuple l2 xs2) (hx : xs1[k]? = none)
    (hQ : ∀ h', (∀ c o, c ≠ z → c ≠ TO → c ≠ i1 → c ≠ i2 → s.heap.get? c = some o → h'.get? c = some o) → Q none { s with heap := h' }) : wpAny (model prog w) A (pyNext (.ref z)) Q E s := by
  have hT : s.TypeIs (.ref z) "zip" := ⟨_, hz, rfl⟩
  unfold pyNext
  refine wpAny_bind (wpAny_attempt (wpAny_callSpecial?_slot (name := Str.ofString "__next__") hT F.slot_zip_next
    (wpAny_call_entry F.slot_zip_next hT F.entry_zip_next (z2_next_end hh D hz hf0 hTI hTO hsz h1 h2 hl1 hl2 hx fun h' e hk he => ?_) (F.args_zip_next_1 _))))
  obtain ⟨o, ho, hc⟩ := he
  refine wpAny_bind (wpAny_isInstance (T := "StopIteration") (b := true) ⟨o, ho, hc⟩ isSubtype_stop ?_)
  exact wpAny_pure (hQ _ hk)
end
abbrev zt2H1 (h : Heap) (l1 : Addr) : Heap := h.push { cls := .type "tuple_iterator", data := .fields #[.ref l1, .int 0 0] }
abbrev zt2H2 (h : Heap) (l1 l2 : Addr) : Heap := (zt2H1 h l1).push { cls := .type "tuple_iterator", data := .fields #[.ref l2, .int 0 0] }
abbrev zt2TI (h : Heap) (l1 l2 : Addr) : Heap := (zt2H2 h l1 l2).push { cls := .type "tuple", data := .seq #[.ref h.objs.size, .ref (zt2H1 h l1).objs.size] }
abbrev zt2TO (h : Heap) (l1 l2 : Addr) : Heap := (zt2TI h l1 l2).push { cls := .type "tuple", data := .seq #[.none, .none] }
abbrev zt2Z (h : Heap) (l1 l2 : Addr) : Heap := (zt2TO h l1 l2).push { cls := .type "zip", data := .fields #[.none, .bool false, .bool false, .ref (zt2H2 h l1 l2).objs.size, .ref (zt2TI h l1 l2).objs.size] }
theorem meets_z2_new (l1 l2 : Addr) (xs1 xs2 : Array Value) :
    Meets (Builtin.«zip.__new__» ⟨[.type "zip", .ref l1, .ref l2], []⟩) (fun _ R s => s.heap.IsTuple l1 xs1 ∧ s.heap.IsTuple l2 xs2 ∧
      R (.ok (.ret (.ref (zt2TO s.heap l1 l2).objs.size))) { s with heap := zt2Z s.heap l1 l2 }) :=
  .of_wp fun prog w A R s h => by
    obtain ⟨hp, g, d, tk, os⟩ := s; obtain ⟨hl1, hl2, h⟩ := h
    have hsub := sub_zip
    have hL1 : Heap.IsTuple (Shared.heap ⟨hp, g, d, tk, os⟩) l1 xs1 := hl1
    have hL2 : Heap.IsTuple (Shared.heap ⟨(zt2H1 hp l1), g, d, tk, os⟩) l2 xs2 := Heap.IsTuple.push (hl2) _
    wp_walk using wpAny_pyIter_tuple hL1, wpAny_pyIter_tuple hL2
    exact ⟨_, rfl, h⟩
section
variable {prog : Program} {w : World} {A : Around} {E : Value → Shared → Prop} {s : Shared}
theorem call_z2 {l1 l2 : Addr} {xs1 xs2 : Array Value} {Q : Value → Shared → Prop} (hl1 : s.heap.IsTuple l1 xs1) (hl2 : s.heap.IsTuple l2 xs2)
    (h : ∀ h', IsZipF h' (s.heap.objs.size + 4) (s.heap.objs.size + 2) (s.heap.objs.size + 3) .none false → IsTupA h' (s.heap.objs.size + 2) #[.ref s.heap.objs.size, .ref (s.heap.objs.size + 1)] → IsTupA h' (s.heap.objs.size + 3) #[.none, .none] → h'.IsTupleIter s.heap.objs.size l1 0 → h'.IsTupleIter (s.heap.objs.size + 1) l2 0 → h'.objs.size = (s.heap.objs.size + 5) → (∀ c o, s.heap.get? c = some o → h'.get? c = some o) → Q (.ref (s.heap.objs.size + 4)) { s with heap := h' }) :
    wpAny (model prog w) A (call (.type "zip") [.ref l1, .ref l2]) Q E s := by
  refine callType_new F.called_zip (by decide) (F.typeCall_zip_2 _ _) (F.newCall_zip_2 _ _) (fun obj => F.args_object_init_3 obj _ _) F.entry_zip_new (meets_z2_new l1 l2 xs1 xs2) ⟨hl1, hl2, ?_⟩
  have z1 : (zt2H1 s.heap l1).objs.size = (s.heap.objs.size + 1) := Heap.size_push ..
  have z2 : (zt2H2 s.heap l1 l2).objs.size = (s.heap.objs.size + 2) := by rw [Heap.size_push, z1]
  have z3 : (zt2TI s.heap l1 l2).objs.size = (s.heap.objs.size + 3) := by rw [Heap.size_push, z2]
  have z4 : (zt2TO s.heap l1 l2).objs.size = (s.heap.objs.size + 4) := by rw [Heap.size_push, z3]
  have z5 : (zt2Z s.heap l1 l2).objs.size = (s.heap.objs.size + 5) := by rw [Heap.size_push, z4]
  have g0 : (zt2Z s.heap l1 l2).get? s.heap.objs.size = some _ := Heap.get?_push_of_some _ (Heap.get?_push_of_some _ (Heap.get?_push_of_some _ (Heap.get?_push_of_some _ (Heap.get?_push_size _ rfl))))
  have g1 : (zt2Z s.heap l1 l2).get? (zt2H1 s.heap l1).objs.size = some _ := Heap.get?_push_of_some _ (Heap.get?_push_of_some _ (Heap.get?_push_of_some _ (Heap.get?_push_size _ rfl)))
  have g2 : (zt2Z s.heap l1 l2).get? (zt2H2 s.heap l1 l2).objs.size = some _ := Heap.get?_push_of_some _ (Heap.get?_push_of_some _ (Heap.get?_push_size _ rfl))
  have g3 : (zt2Z s.heap l1 l2).get? (zt2TI s.heap l1 l2).objs.size = some _ := Heap.get?_push_of_some _ (Heap.get?_push_size _ rfl)
  have g4 : (zt2Z s.heap l1 l2).get? (zt2TO s.heap l1 l2).objs.size = some _ := Heap.get?_push_size _ rfl
  show _ ∧ _
  rw [z2, z3, z4] at g4
  rw [z1, z2] at g2
  rw [z3] at g3
  rw [z1] at g1
  rw [z4]
  exact ⟨⟨_, g4, rfl⟩, h _ g4 g2 g3 ⟨_, g0, rfl, rfl⟩ ⟨_, g1, rfl, rfl⟩ z5 fun c o x => Heap.get?_push_of_some _ (Heap.get?_push_of_some _ (Heap.get?_push_of_some _ (Heap.get?_push_of_some _ (Heap.get?_push_of_some _ (x)))))⟩
end
/-- the 2 tuples as they stand at each turn, the items in a new tuple -/
def ItS2 (K : PySem.W.Frag) (a1 a2 : Addr) : It :=
  ⟨fun i H => ∃ (xs1 xs2 : List V) (x1 x2 : V), SqT K H a1 xs1 ∧ SqT K H a2 xs2 ∧ xs1[i]? = some x1 ∧ xs2[i]? = some x2,
    fun i H v H' => ∃ T x1 x2, v = .ref T ∧ H T = none ∧ H' = upd H T (.tup [x1, x2]) ∧ (∀ ys, SqT K H a1 ys → ys[i]? = some x1) ∧ (∀ ys, SqT K H a2 ys → ys[i]? = some x2),
    fun i H => ∃ (xs1 xs2 : List V), SqT K H a1 xs1 ∧ SqT K H a2 xs2 ∧ xs1.length ≤ i⟩
theorem turn_S2 {P : Program} {w : World} {K : PySem.W.Frag} {nm : Str} {tpos : Pos} {z TI TO i1 i2 a1 a2 : Addr} (D : ZA2 z TI TO i1 i2 a1 a2) : Turn P w K (.Name nm tpos) (ItS2 K a1 a2) [z, TI, TO, i1, i2] z (fun i h => ∃ f0 f1 arr, OwnF f0 ∧ IsZipF h z TI TO f0 f1 ∧ IsTupA h TI #[.ref i1, .ref i2] ∧ IsTupA h TO arr ∧ arr.size = 2 ∧ h.IsTupleIter i1 a1 i ∧ h.IsTupleIter i2 a2 i) where
  mem := by simp
  obj := fun i h st c hc => by
    obtain ⟨f0, f1, arr, hf0, hz, hTI, hTO, hsz, ⟨o1, e1, _, d1⟩, ⟨o2, e2, _, d2⟩⟩ := st
    have e' : c = z ∨ c = TI ∨ c = TO ∨ c = i1 ∨ c = i2 := by simpa using hc
    rcases e' with q | q | q | q | q
    · rw [q]; exact ⟨_, hz, fun v q => nomatch q⟩
    · rw [q]; exact ⟨_, hTI, fun v q => nomatch q⟩
    · rw [q]; exact ⟨_, hTO, fun v q => nomatch q⟩
    · rw [q]; exact ⟨o1, e1, fun v q => by rw [d1] at q; cases q⟩
    · rw [q]; exact ⟨o2, e2, fun v q => by rw [d2] at q; cases q⟩
  keep := fun i h h' st k => by
    obtain ⟨f0, f1, arr, hf0, hz, hTI, hTO, hsz, h1, h2⟩ := st
    exact ⟨f0, f1, arr, hf0, k z (by simp) _ hz, k TI (by simp) _ hTI, k TO (by simp) _ hTO, hsz, h1.at fun o q => k i1 (by simp) o q, h2.at fun o q => k i2 (by simp) o q⟩
  item := by
    intro X hP hw hK hc i pins s σ H E I hf st hg
    subst hP hw hK
    obtain ⟨f0, f1, arr, hf0, hz, hTI, hTO, hsz, h1, h2⟩ := st
    obtain ⟨xs1, xs2, x1, x2, hq1, hq2, hx1, hx2⟩ := hg
    obtain ⟨its1, rv1, p1, _⟩ := I.tuple hq1
    obtain ⟨w1, hw1, rw1⟩ := rv1.get hx1
    obtain ⟨its2, rv2, p2, _⟩ := I.tuple hq2
    obtain ⟨w2, hw2, rw2⟩ := rv2.get hx2
    have hzl : z < s.heap.objs.size := Heap.lt_size hz
    refine z2_pyNext_item D hz hf0 hTI hTO hsz h1 h2 p1 p2 (by simpa using hw1) (by simpa using hw2) fun h' f0' f1' arr' hf0' hz' TO' hsz' h1' h2' hT hsz2 hk => ?_
    refine ⟨_, rfl, wpAny_pure ?_⟩
    have new : ObjOk X.prog X.w (upd H s.heap.objs.size (.tup [x1, x2])) h' s.heap.objs.size (.tup [x1, x2]) := ⟨by show 2 ≤ sizeLine; decide, [w1, w2], .cons rw1 (.cons rw2 (.nil)), ⟨_, hT, rfl, _, rfl⟩⟩
    have I1 : Inv X pins σ (upd H s.heap.objs.size (.tup [x1, x2])) { s with heap := h' } :=
      I.turnedNew (t' := s.toks) (ch := [z, TI, TO, i1, i2]) (fun c o hb q => hk c o (fun q' => hb (by simp [q'])) (fun q' => hb (by simp [q'])) (fun q' => hb (by simp [q'])) (fun q' => hb (by simp [q'])) q) hf (Nat.le_refl _) new
    refine ⟨.ref s.heap.objs.size, _, I1, rfl, ⟨_, x1, x2, rfl, I.hok.fresh (Nat.le_refl _), rfl, fun l hl => by rw [I.tuple_inj hl hq1]; exact hx1, fun l hl => by rw [I.tuple_inj hl hq2]; exact hx2⟩, ⟨f0', f1', arr', hf0', hz', ?_, TO', hsz', h1', h2'⟩, fun c hcm => ?_⟩
    · exact hk _ _ D.TIz D.TITO D.TIi1 D.TIi2 hTI
    · have hlt : c < s.heap.objs.size := by
        have e' : c = z ∨ c = TI ∨ c = TO ∨ c = i1 ∨ c = i2 := by simpa using hcm
        rcases e' with q | q | q | q | q
        · rw [q]; exact hzl
        · rw [q]; exact Heap.lt_size hTI
        · rw [q]; exact Heap.lt_size hTO
        · rw [q]; obtain ⟨_, e1, _⟩ := h1; exact Heap.lt_size e1
        · rw [q]; obtain ⟨_, e1, _⟩ := h2; exact Heap.lt_size e1
      rw [upd_ne (Nat.ne_of_lt hlt)]
      exact (hf c hcm).1
  done := by
    intro X hP hw hK hc i pins s σ H E I hf st hg
    subst hP hw hK
    obtain ⟨f0, f1, arr, hf0, hz, hTI, hTO, hsz, h1, h2⟩ := st
    obtain ⟨xs1, xs2, hq1, hq2, hend⟩ := hg
    obtain ⟨its1, rv1, p1, _⟩ := I.tuple hq1
    obtain ⟨its2, rv2, p2, _⟩ := I.tuple hq2
    have l1 := rv1.length
    exact z2_pyNext_end (I.ok.hd hc) D hz hf0 hTI hTO hsz h1 h2 p1 p2 (by simp; omega) fun h' hk => ⟨rfl, I.turnedL (t' := s.toks) (ch := [z, TI, TO, i1, i2]) (fun c o hb q => hk c o (fun q' => hb (by simp [q'])) (fun q' => hb (by simp [q'])) (fun q' => hb (by simp [q'])) (fun q' => hb (by simp [q'])) q) hf⟩
  self := fun A i s Q E st h => by
    obtain ⟨f0, f1, arr, hf0, hz, _⟩ := st
    exact pyIter_zipF hz h
end Hs
namespace Hs
open PySem PySem.Spec PyProof.Rows L2

/-- zip(*rows), a call by a star alone -/
theorem callWith_starT {M : Model} {A : Around} {E : Value → Shared → Prop} {s : Shared} {env : Env} {pos p : Pos} {T : String} {e : Expr} {Q : Value → Shared → Prop} (h : wpAny M A (eval e env) (fun v s₁ => PySem.W.StarOf M A E v (fun vs s₂ => wpAny M A (call (.type T) vs) Q E s₂) s₁) E s)
    (he : starEach [.Starred e p] env = [(true, eval e env)] := by rfl) : wpAny M A (callWith pos (.type T) [] (backTo pos (starEach [.Starred e p] env)) []) Q E s := by
  rw [he]
  refine PySem.W.ks_call (P := fun _ => True) rfl (fun h _ => ⟨.machine, .inr (.inl rfl), ?_⟩) (PySem.W.ks_lone (wpAny_mono h (fun v s₁ h₁ => ?_) fun _ _ x => x))
  · exact PySem.W.Looks.now
  · unfold PySem.W.StarOf at h₁ ⊢
    refine wpAny_mono h₁ (fun b s₂ h₂ => ⟨h₂.1, wpAny_mono h₂.2 (fun vs s₃ h₃ => ⟨trivial, h₃⟩) fun _ _ x => x⟩) fun _ _ x => x
theorem neA {a b : Nat} (h : a ≠ b) : (a : Addr) ≠ (b : Addr) := h

theorem vals_refs2 {a1 a2 : Addr} {us : List Value} (r : Vals [.ref a1, .ref a2] us) : us = [.ref a1, .ref a2] := by
  cases r with
  | cons q r =>
    cases q
    cases r with
    | cons q r =>
      cases q
      cases r
      rfl
theorem apart2 (I a1 a2 : Nat) (h1 : a1 < I) (h2 : a2 < I) : ZA2 (I + 4) (I + 2) (I + 3) I (I + 1) a1 a2 := by
  constructor <;> (refine neA ?_; omega)

def iZipS2 (K : PySem.W.Frag) (te : TE) : TI := fun σ H R => te σ H fun v H1 => ∃ (l a1 a2 : Addr) (xs1 xs2 : List V), v = .ref l ∧ SqL K H1 l [.ref a1, .ref a2] ∧ SqT K H1 a1 xs1 ∧ SqT K H1 a2 xs2 ∧ R (ItS2 K a1 a2) H1
theorem pi_zipS2 {X : Cx} {e : Expr} {te : TE} {p sp pos tpos : Pos} {nm : Str} (hg : Gl X "zip") (hm : X.mg "zip" = none) (he : PE X e te) (hs : starEach [.Starred e sp] X.env = [(true, eval e X.env)] := by rfl) : PI X (.Name nm tpos) (.Call (.Name "zip" p) [.Starred e sp] [] pos) (iZipS2 X.K te) := by
  refine ⟨fun pins s σ H R I h => ?_⟩
  refine Call_ (ld_blt I hg hm PyProof.Rows.boot_zip (callWith_starT (thn (he.run pins s σ H _ I h) fun v s0 ⟨y, H1, I0, ry, l, a1, a2, xs1, xs2, ey, hl, hq1, hq2, q⟩ => ?_) hs))
  subst ey
  obtain rfl : v = Value.ref l := ry
  refine StX.star_lst I0 hl fun us s1 I1 rv => ?_
  obtain rfl : us = [.ref a1, .ref a2] := vals_refs2 rv
  obtain ⟨its1, rv1, p1, _⟩ := I1.tuple hq1
  obtain ⟨o1, ho1, _⟩ := id p1
  obtain ⟨its2, rv2, p2, _⟩ := I1.tuple hq2
  obtain ⟨o2, ho2, _⟩ := id p2
  refine call_z2 (show s1.heap.IsTuple a1 its1.toArray from p1) (show s1.heap.IsTuple a2 its2.toArray from p2) fun h' hz hTI hTO h1 h2 hsz hk => pyIter_zipF hz ?_
  have I2 : Inv X pins σ H1 { s1 with heap := h' } := I1.kept (t' := s1.toks) hk
  refine ⟨s1.heap.objs.size + 4, [s1.heap.objs.size + 4, s1.heap.objs.size + 2, s1.heap.objs.size + 3, s1.heap.objs.size, s1.heap.objs.size + 1], _, _, H1, rfl, I2, turn_S2 (apart2 s1.heap.objs.size a1 a2 (Heap.lt_size ho1) (Heap.lt_size ho2)), ⟨_, _, _, .inl rfl, hz, hTI, hTO, rfl, h1, h2⟩, fun c hcm => ?_, q⟩
  have hle : s1.heap.objs.size ≤ c := by
    simp only [List.mem_cons, List.not_mem_nil, or_false] at hcm
    rcases hcm with rfl | rfl | rfl | rfl | rfl <;> first | exact Nat.le_refl _ | exact Nat.le_add_right _ _
  exact I1.fpOk hle (I1.hok.fresh hle)

end Hs
namespace Hs
/-! ### cutting a hull down by heights: what is left, in whole numbers -/
def dot (w h : List Int) : Int := (List.zipWith (· * ·) w h).sum
theorem dot_cons (a b : Int) (w h : List Int) : dot (a :: w) (b :: h) = a * b + dot w h := by simp [dot]
theorem dot_nil (h : List Int) : dot [] h = 0 := by simp [dot]
/-- a combination of two -/
def comb (p : List Int) (a : Int) (q : List Int) (b : Int) : List Int := List.zipWith (fun x y => x * a + y * b) p q
theorem comb_dot {a b : Int} : ∀ {p q f : List Int}, p.length = q.length → dot (comb p a q b) f = a * dot p f + b * dot q f
  | [], [], f, _ => by simp [comb, dot]
  | x :: p, y :: q, [], _ => by simp [comb, dot]
  | x :: p, y :: q, z :: f, h => by
    have ih := comb_dot (a := a) (b := b) (f := f) (Nat.succ.inj h)
    have e : comb (x :: p) a (y :: q) b = (x * a + y * b) :: comb p a q b := rfl
    rw [e, dot_cons, dot_cons, dot_cons, ih]
    grind
/-- f and h mixed -/
theorem mix_dot {a b : Int} : ∀ {w f h : List Int}, f.length = h.length → dot w (comb f a h b) = a * dot w f + b * dot w h
  | [], f, h, _ => by simp [dot]
  | x :: w, [], [], _ => by simp [comb, dot]
  | x :: w, y :: f, z :: h, e => by
    have ih := mix_dot (w := w) (a := a) (b := b) (Nat.succ.inj e)
    have e2 : comb (y :: f) a (z :: h) b = (y * a + z * b) :: comb f a h b := rfl
    rw [e2, dot_cons, dot_cons, dot_cons, ih]
    grind
theorem comb_len {p q : List Int} {a b : Int} (h : p.length = q.length) : (comb p a q b).length = p.length := by simp [comb, h]
def gl (g : Int) : List Int → Int
  | [] => g
  | w :: ws => gl (Int.gcd g w : Int) ws
theorem gl_nn : ∀ {ws : List Int} {g : Int}, 0 ≤ g → 0 ≤ gl g ws
  | [], g, h => h
  | w :: ws, g, _ => gl_nn (ws := ws) (g := (Int.gcd g w : Int)) (by omega)
theorem gl_dvd : ∀ {ws : List Int} {g : Int}, gl g ws ∣ g ∧ ∀ w ∈ ws, gl g ws ∣ w
  | [], g => ⟨Int.dvd_refl g, fun w hw => by cases hw⟩
  | v :: ws, g => by
    obtain ⟨h1, h2⟩ := gl_dvd (ws := ws) (g := (Int.gcd g v : Int))
    refine ⟨Int.dvd_trans h1 (Int.gcd_dvd_left ..), fun w hw => ?_⟩
    rcases List.mem_cons.mp hw with rfl | hw
    · exact Int.dvd_trans h1 (Int.gcd_dvd_right ..)
    · exact h2 w hw
theorem gl_ne {ws : List Int} {w : Int} (hw : w ∈ ws) (h : w ≠ 0) : gl 0 ws ≠ 0 := fun e => by
  have := (gl_dvd (ws := ws) (g := 0)).2 w hw
  rw [e] at this
  exact h (Int.zero_dvd.mp this)
theorem div_dot {g : Int} : ∀ {ws f : List Int}, (∀ w ∈ ws, g ∣ w) → g * dot (ws.map (·.fdiv g)) f = dot ws f
  | [], f, _ => by simp [dot]
  | w :: ws, [], _ => by simp [dot]
  | w :: ws, z :: f, h => by
    have ih := div_dot (f := f) fun v hv => h v (List.mem_cons_of_mem _ hv)
    have hw := h w (List.mem_cons_self ..)
    have e : g * w.fdiv g = w := by rw [Int.fdiv_eq_ediv_of_dvd hw, Int.mul_ediv_cancel' hw]
    rw [List.map_cons, dot_cons, dot_cons, ← ih]
    generalize w.fdiv g = x at e
    rw [← e]
    grind
/-- the point between prev and p at which the height is 0 -/
def mid (prev : List Int) (a : Int) (p : List Int) (b : Int) : List Int := comb prev (b.natAbs : Int) p (a.natAbs : Int)
def betw (prev : List Int) (a : Int) (p : List Int) (b : Int) : List Int := (mid prev a p b).map (·.fdiv (gl 0 (mid prev a p b)))
def ones (m : Nat) : List Int := List.replicate m 1
theorem dot_ones : ∀ {w : List Int}, dot w (ones w.length) = w.sum
  | [] => by simp [dot]
  | x :: w => by
    have e : ones (x :: w).length = 1 :: ones w.length := rfl
    rw [e, dot_cons, dot_ones, List.sum_cons, Int.mul_one]
theorem sum_nz : ∀ {ws : List Int}, ws.sum ≠ 0 → ∃ w ∈ ws, w ≠ 0
  | [], h => absurd rfl h
  | x :: ws, h => by
    by_cases hx : x = 0
    · rw [List.sum_cons, hx, Int.zero_add] at h
      obtain ⟨w, h1, h2⟩ := sum_nz h
      exact ⟨w, List.mem_cons_of_mem _ h1, h2⟩
    · exact ⟨x, List.mem_cons_self .., hx⟩
/-- weights: as many as m, none below 0, not all 0 -/
structure Wt (m : Nat) (u : List Int) : Prop where
  len : u.length = m
  nn : ∀ x ∈ u, 0 ≤ x
  pos : 0 < dot u (ones m)
/-- weights whose point is at height 0 and more by all of hs -/
def InS (m : Nat) (hs : List (List Int)) (u : List Int) : Prop := Wt m u ∧ ∀ h ∈ hs, 0 ≤ dot u h
theorem zip_nn {a b : Int} (ha : 0 ≤ a) (hb : 0 ≤ b) : ∀ {p q : List Int}, (∀ x ∈ p, 0 ≤ x) → (∀ x ∈ q, 0 ≤ x) → ∀ x ∈ comb p a q b, 0 ≤ x
  | [], _, _, _, x, h => by simp [comb] at h
  | _ :: _, [], _, _, x, h => by simp [comb] at h
  | y :: p, z :: q, h1, h2, x, h => by
    have e : comb (y :: p) a (z :: q) b = (y * a + z * b) :: comb p a q b := rfl
    rw [e] at h
    rcases List.mem_cons.mp h with rfl | h
    · have e1 := Int.mul_nonneg (h1 y (List.mem_cons_self ..)) ha
      have e2 := Int.mul_nonneg (h2 z (List.mem_cons_self ..)) hb
      omega
    · exact zip_nn ha hb (fun w hw => h1 w (List.mem_cons_of_mem _ hw)) (fun w hw => h2 w (List.mem_cons_of_mem _ hw)) x h
theorem opp {a b : Int} (h : b * a < 0) : (a < 0 ∧ 0 < b) ∨ (0 < a ∧ b < 0) := by
  rcases Int.lt_trichotomy a 0 with h1 | h1 | h1
  · refine .inl ⟨h1, Decidable.byContradiction fun h2 => ?_⟩
    have := Int.mul_nonneg_of_nonpos_of_nonpos (a := b) (b := a) (by omega) (by omega)
    omega
  · rw [h1, Int.mul_zero] at h
    omega
  · refine .inr ⟨h1, Decidable.byContradiction fun h2 => ?_⟩
    have := Int.mul_nonneg (a := b) (b := a) (by omega) (by omega)
    omega
/-- the point between: what it is by any functional -/
theorem betw_ok {m : Nat} {prev p : List Int} {a b : Int} (hp : Wt m prev) (hq : Wt m p) (h : b * a < 0) : Wt m (betw prev a p b) ∧ ∃ g : Int, 0 < g ∧ gl 0 (mid prev a p b) = g ∧ ∀ f : List Int, g * dot (betw prev a p b) f = (b.natAbs : Int) * dot prev f + (a.natAbs : Int) * dot p f := by
  have hl : prev.length = p.length := hp.len.trans hq.len.symm
  have nn : ∀ x ∈ mid prev a p b, 0 ≤ x := zip_nn (by omega) (by omega) hp.nn hq.nn
  have ml : (mid prev a p b).length = m := (comb_len hl).trans hp.len
  have md : ∀ f, dot (mid prev a p b) f = (b.natAbs : Int) * dot prev f + (a.natAbs : Int) * dot p f := fun f => comb_dot hl
  have ab : 0 < (b.natAbs : Int) ∧ 0 < (a.natAbs : Int) := by rcases opp h with q | q <;> omega
  have mp : 0 < dot (mid prev a p b) (ones m) := by
    rw [md]
    have e1 := Int.mul_pos ab.1 hp.pos
    have e2 := Int.mul_pos ab.2 hq.pos
    omega
  have gn : gl 0 (mid prev a p b) ≠ 0 := by
    rw [← ml, dot_ones] at mp
    obtain ⟨w, h1, h2⟩ := sum_nz (ws := mid prev a p b) (by omega)
    exact gl_ne h1 h2
  have g0 := gl_nn (ws := mid prev a p b) (g := 0) (Int.le_refl 0)
  have dv := (gl_dvd (ws := mid prev a p b) (g := 0)).2
  have key : ∀ f, gl 0 (mid prev a p b) * dot (betw prev a p b) f = (b.natAbs : Int) * dot prev f + (a.natAbs : Int) * dot p f := fun f => by rw [← md f]; exact div_dot dv
  refine ⟨⟨by rw [betw, List.length_map, ml], fun x hx => ?_, ?_⟩, _, by omega, rfl, key⟩
  · obtain ⟨y, hy, rfl⟩ := List.mem_map.mp hx
    exact Int.fdiv_nonneg (nn y hy) g0
  · have e := key (ones m)
    rw [← md] at e
    rw [← e] at mp
    exact Int.pos_of_mul_pos_right mp (by omega)
/-! ### changes of sign around -/
/-- whether two are unlike, as a number -/
def nq (a b : Bool) : Nat := (a != b).toNat
theorem nq_self (a : Bool) : nq a a = 0 := by cases a <;> rfl
def chg (b : Bool) : List Bool → Nat
  | [] => 0
  | c :: cs => nq b c + chg c cs
def lastD {α : Type} (d : α) : List α → α
  | [] => d
  | x :: xs => lastD x xs
theorem lastD_app {α : Type} {d x : α} : ∀ {xs : List α}, lastD d (xs ++ [x]) = x
  | [] => rfl
  | y :: ys => lastD_app (xs := ys)
theorem lastD_app2 {α : Type} {d : α} : ∀ {xs ys : List α}, lastD d (xs ++ ys) = lastD (lastD d xs) ys
  | [], ys => rfl
  | y :: xs, ys => lastD_app2 (d := y) (xs := xs)
theorem lastD_map {α β : Type} {f : α → β} {d : α} : ∀ {xs : List α}, lastD (f d) (xs.map f) = f (lastD d xs)
  | [] => rfl
  | y :: ys => lastD_map (d := y) (xs := ys)
theorem chg_app {b : Bool} : ∀ {xs ys : List Bool}, chg b (xs ++ ys) = chg b xs + chg (lastD b xs) ys
  | [], ys => by simp [chg, lastD]
  | x :: xs, ys => by
    have ih := chg_app (b := x) (xs := xs) (ys := ys)
    simp only [List.cons_append, chg, lastD, ih]
    omega
theorem chg_tri {b c : Bool} : ∀ {xs : List Bool}, chg b xs ≤ nq b c + chg c xs
  | [] => by simp [chg]
  | x :: xs => by
    simp only [chg]
    cases b <;> cases c <;> cases x <;> simp [nq] <;> omega
/-- closed: from b through xs and on to c -/
theorem chg_filter {α : Type} {f : α → Bool} {q : α → Bool} {c : Bool} : ∀ {xs : List α} {b : Bool}, chg b ((xs.filter q).map f) + nq (lastD b ((xs.filter q).map f)) c ≤ chg b (xs.map f) + nq (lastD b (xs.map f)) c
  | [], b => Nat.le_refl _
  | x :: xs, b => by
    cases hq : q x with
    | true =>
      rw [List.filter_cons_of_pos hq]
      have ih := chg_filter (f := f) (q := q) (c := c) (xs := xs) (b := f x)
      simp only [List.map_cons, chg, lastD]
      omega
    | false =>
      rw [List.filter_cons_of_neg (by rw [hq]; decide)]
      have ih := chg_filter (f := f) (q := q) (c := c) (xs := xs) (b := f x)
      have t : chg b ((xs.filter q).map f) + nq (lastD b ((xs.filter q).map f)) c ≤ nq b (f x) + (chg (f x) ((xs.filter q).map f) + nq (lastD (f x) ((xs.filter q).map f)) c) := by
        cases hl : (xs.filter q).map f with
        | nil =>
          simp only [chg, lastD]
          cases b <;> cases c <;> cases f x <;> simp [nq]
        | cons y ys =>
          simp only [chg, lastD]
          generalize nq (lastD y ys) c = k
          generalize chg y ys = k2
          cases b <;> cases f x <;> cases y <;> simp [nq] <;> omega
      simp only [List.map_cons, chg, lastD]
      omega
/-- how often the sign of f changes around the points -/
def pos (f p : List Int) : Bool := decide (0 < dot p f)
def around (f : List Int) (pts : List (List Int)) : Nat := chg (pos f (lastD [] pts)) (pts.map (pos f))
/-! ### one cut -/
def emit (h prev p : List Int) : List (List Int) := (if dot p h * dot prev h < 0 then [betw prev (dot prev h) p (dot p h)] else []) ++ (if 0 ≤ dot p h then [p] else [])
def cutL (h prev : List Int) : List (List Int) → List (List Int)
  | [] => []
  | p :: ps => emit h prev p ++ cutL h p ps
def cutA (h : List Int) (pts : List (List Int)) : List (List Int) := cutL h (lastD [] pts) pts
theorem cutL_snoc {h p : List Int} : ∀ {prev : List Int} {ps : List (List Int)}, cutL h prev (ps ++ [p]) = cutL h prev ps ++ emit h (lastD prev ps) p
  | prev, [] => by simp [cutL, lastD]
  | prev, q :: ps => by
    have ih := cutL_snoc (h := h) (p := p) (prev := q) (ps := ps)
    simp only [List.cons_append, cutL, lastD, ih, List.append_assoc]
/-- .. the same, nothing left out -/
def ins (h prev : List Int) : List (List Int) → List (List Int)
  | [] => []
  | p :: ps => (if dot p h * dot prev h < 0 then [betw prev (dot prev h) p (dot p h)] else []) ++ p :: ins h p ps
theorem betw_h {m : Nat} {prev p h : List Int} (hp : Wt m prev) (hq : Wt m p) (hc : dot p h * dot prev h < 0) : dot (betw prev (dot prev h) p (dot p h)) h = 0 := by
  obtain ⟨_, g, g0, _, k⟩ := betw_ok hp hq hc
  have e := k h
  have z : ((dot p h).natAbs : Int) * dot prev h + ((dot prev h).natAbs : Int) * dot p h = 0 := by
    rcases opp hc with ⟨h1, h2⟩ | ⟨h1, h2⟩
    · have e1 : ((dot p h).natAbs : Int) = dot p h := by omega
      have e2 : ((dot prev h).natAbs : Int) = -dot prev h := by omega
      rw [e1, e2]
      grind
    · have e1 : ((dot p h).natAbs : Int) = -dot p h := by omega
      have e2 : ((dot prev h).natAbs : Int) = dot prev h := by omega
      rw [e1, e2]
      grind
  rw [z] at e
  rcases Int.mul_eq_zero.mp e with q | q
  · omega
  · exact q
theorem cut_ins {m : Nat} {h : List Int} : ∀ {prev : List Int} {ps : List (List Int)}, Wt m prev → (∀ p ∈ ps, Wt m p) → cutL h prev ps = (ins h prev ps).filter fun p => decide (0 ≤ dot p h)
  | prev, [], _, _ => rfl
  | prev, p :: ps, h1, h2 => by
    have hp := h2 p (List.mem_cons_self ..)
    have ih := cut_ins (h := h) hp fun q hq => h2 q (List.mem_cons_of_mem _ hq)
    simp only [cutL, ins, emit, ih, List.filter_append]
    have e1 : List.filter (fun p => decide (0 ≤ dot p h)) (if dot p h * dot prev h < 0 then [betw prev (dot prev h) p (dot p h)] else []) = (if dot p h * dot prev h < 0 then [betw prev (dot prev h) p (dot p h)] else []) := by
      split
      · rename_i hc
        rw [List.filter_cons_of_pos (by rw [betw_h h1 hp hc]; rfl)]
        rfl
      · rfl
    rw [e1, List.append_assoc]
    congr 1
    by_cases hz : 0 ≤ dot p h
    · rw [if_pos hz, List.filter_cons_of_pos (p := fun p => decide (0 ≤ dot p h)) (decide_eq_true hz)]
      rfl
    · rw [if_neg hz, List.filter_cons_of_neg (p := fun p => decide (0 ≤ dot p h)) (by rw [decide_eq_false hz]; decide)]
      rfl
theorem ins_last {h : List Int} : ∀ {prev d : List Int} {ps : List (List Int)}, ps ≠ [] → lastD d (ins h prev ps) = lastD d ps
  | prev, d, [], h => absurd rfl h
  | prev, d, [p], _ => by
    simp only [ins]
    rw [lastD_app2]
    rfl
  | prev, d, p :: q :: ps, _ => by
    have ih := ins_last (h := h) (prev := p) (d := p) (ps := q :: ps) (by simp)
    simp only [ins]
    rw [lastD_app2]
    exact ih
/-- a point between has the sign of one of both -/
theorem betw_pos {m : Nat} {prev p f : List Int} {a b : Int} (hp : Wt m prev) (hq : Wt m p) (h : b * a < 0) (e : pos f prev = pos f p) : pos f (betw prev a p b) = pos f p := by
  obtain ⟨_, g, g0, _, k⟩ := betw_ok hp hq h
  have kf := k f
  have ab : 0 < (b.natAbs : Int) ∧ 0 < (a.natAbs : Int) := by rcases opp h with q | q <;> omega
  unfold pos at e ⊢
  by_cases h1 : 0 < dot p f
  · have h2 : 0 < dot prev f := by
      rw [decide_eq_true h1] at e
      exact of_decide_eq_true e
    have e1 := Int.mul_pos ab.1 h2
    have e2 := Int.mul_pos ab.2 h1
    have : 0 < dot (betw prev a p b) f := Int.pos_of_mul_pos_right (a := g) (by omega) (by omega)
    rw [decide_eq_true h1, decide_eq_true this]
  · have h2 : ¬ 0 < dot prev f := by
      rw [decide_eq_false h1] at e
      exact of_decide_eq_false e
    have e1 := Int.mul_nonneg_of_nonpos_of_nonpos (a := -(b.natAbs : Int)) (b := dot prev f) (by omega) (by omega)
    have e2 := Int.mul_nonneg_of_nonpos_of_nonpos (a := -(a.natAbs : Int)) (b := dot p f) (by omega) (by omega)
    rw [Int.neg_mul] at e1 e2
    have : ¬ 0 < dot (betw prev a p b) f := fun q => by
      have := Int.mul_pos g0 q
      omega
    rw [decide_eq_false h1, decide_eq_false this]
theorem ins_chg {m : Nat} {h f : List Int} : ∀ {prev : List Int} {ps : List (List Int)}, Wt m prev → (∀ p ∈ ps, Wt m p) → chg (pos f prev) ((ins h prev ps).map (pos f)) = chg (pos f prev) (ps.map (pos f))
  | prev, [], _, _ => rfl
  | prev, p :: ps, h1, h2 => by
    have hp := h2 p (List.mem_cons_self ..)
    have ih := ins_chg (h := h) (f := f) hp fun q hq => h2 q (List.mem_cons_of_mem _ hq)
    simp only [ins]
    split
    · rename_i hc
      simp only [List.cons_append, List.nil_append, List.map_cons, chg, ih]
      by_cases e : pos f prev = pos f p
      · rw [betw_pos h1 hp hc e, nq_self]
        omega
      · cases pos f (betw prev (dot prev h) p (dot p h)) <;> cases hb : pos f prev <;> cases hd : pos f p <;> simp_all [nq]
    · simp only [List.nil_append, List.map_cons, chg, ih]
theorem lastD_mem {α : Type} {d : α} : ∀ {xs : List α}, xs ≠ [] → lastD d xs ∈ xs
  | [], h => absurd rfl h
  | [x], _ => List.mem_cons_self ..
  | x :: y :: xs, _ => List.mem_cons_of_mem _ (lastD_mem (d := x) (xs := y :: xs) (by simp))
theorem lastD_ne {α : Type} {d e : α} : ∀ {xs : List α}, xs ≠ [] → lastD d xs = lastD e xs
  | [], h => absurd rfl h
  | x :: xs, _ => rfl
theorem cut_around {m : Nat} {h f : List Int} {pts : List (List Int)} (hw : ∀ p ∈ pts, Wt m p) : around f (cutA h pts) ≤ around f pts := by
  by_cases hn : pts = []
  · subst hn
    exact Nat.le_refl _
  · have hl := hw _ (lastD_mem (d := []) hn)
    unfold around cutA
    rw [cut_ins hl hw]
    generalize hL : lastD [] pts = L at hl ⊢
    have e1 := ins_chg (h := h) (f := f) hl hw
    rw [← e1]
    have e2 := chg_filter (f := pos f) (q := fun p => decide (0 ≤ dot p h)) (c := pos f L) (xs := ins h L pts) (b := pos f L)
    have e3 : lastD (pos f L) ((ins h L pts).map (pos f)) = pos f L := by
      rw [lastD_map, ins_last hn, lastD_ne (e := []) hn, hL]
    rw [e3, nq_self] at e2
    by_cases hf : (ins h L pts).filter (fun p => decide (0 ≤ dot p h)) = []
    · rw [hf]
      exact Nat.zero_le _
    · have e4 : lastD (pos f L) (((ins h L pts).filter fun p => decide (0 ≤ dot p h)).map (pos f)) = pos f (lastD [] ((ins h L pts).filter fun p => decide (0 ≤ dot p h))) := by rw [lastD_map, lastD_ne (e := []) hf]
      rw [e4] at e2
      have e5 := chg_tri (b := pos f (lastD [] ((ins h L pts).filter fun p => decide (0 ≤ dot p h)))) (c := pos f L) (xs := ((ins h L pts).filter fun p => decide (0 ≤ dot p h)).map (pos f))
      omega
end Hs
namespace Hs
/-! ### what the cut keeps: the hull, told by functionals -/
/-- consecutive around: no crossing of the height 0 but at a point where g is above 0 -/
def Edge (h g prev p : List Int) : Prop := (dot p h * dot prev h < 0 → 0 < ((dot p h).natAbs : Int) * dot prev g + ((dot prev h).natAbs : Int) * dot p g) ∧ (dot p h = 0 → 0 < dot p g)
def EdgesL (h g prev : List Int) : List (List Int) → Prop
  | [] => True
  | p :: ps => Edge h g prev p ∧ EdgesL h g p ps
theorem edges_app {h g : List Int} : ∀ {prev : List Int} {xs ys : List (List Int)}, EdgesL h g prev (xs ++ ys) → EdgesL h g prev xs ∧ EdgesL h g (lastD prev xs) ys
  | prev, [], ys, e => ⟨trivial, e⟩
  | prev, x :: xs, ys, e => ⟨⟨e.1, (edges_app (xs := xs) e.2).1⟩, (edges_app (xs := xs) e.2).2⟩
/-- on one side of the height, with g nowhere above 0, one stays there -/
theorem walkP {h g : List Int} : ∀ {p : List Int} {xs : List (List Int)}, EdgesL h g p xs → 0 < dot p h → ¬ 0 < dot p g → (∀ q ∈ xs, ¬ 0 < dot q g) → 0 < dot (lastD p xs) h
  | p, [], _, h1, _, _ => h1
  | p, q :: xs, e, h1, h2, h3 => by
    have hq := h3 q (List.mem_cons_self ..)
    refine walkP (p := q) (xs := xs) e.2 ?_ hq fun r hr => h3 r (List.mem_cons_of_mem _ hr)
    rcases Int.lt_trichotomy (dot q h) 0 with z | z | z
    · have := e.1.1 (Int.mul_neg_of_neg_of_pos z h1)
      have e1 := Int.mul_nonneg_of_nonpos_of_nonpos (a := -((dot q h).natAbs : Int)) (b := dot p g) (by omega) (by omega)
      have e2 := Int.mul_nonneg_of_nonpos_of_nonpos (a := -((dot p h).natAbs : Int)) (b := dot q g) (by omega) (by omega)
      rw [Int.neg_mul] at e1 e2
      omega
    · exact absurd (e.1.2 z) hq
    · exact z
theorem walkN {h g : List Int} : ∀ {p : List Int} {xs : List (List Int)}, EdgesL h g p xs → dot p h < 0 → ¬ 0 < dot p g → (∀ q ∈ xs, ¬ 0 < dot q g) → dot (lastD p xs) h < 0
  | p, [], _, h1, _, _ => h1
  | p, q :: xs, e, h1, h2, h3 => by
    have hq := h3 q (List.mem_cons_self ..)
    refine walkN (p := q) (xs := xs) e.2 ?_ hq fun r hr => h3 r (List.mem_cons_of_mem _ hr)
    rcases Int.lt_trichotomy (dot q h) 0 with z | z | z
    · exact z
    · exact absurd (e.1.2 z) hq
    · have := e.1.1 (Int.mul_neg_of_pos_of_neg z h1)
      have e1 := Int.mul_nonneg_of_nonpos_of_nonpos (a := -((dot q h).natAbs : Int)) (b := dot p g) (by omega) (by omega)
      have e2 := Int.mul_nonneg_of_nonpos_of_nonpos (a := -((dot p h).natAbs : Int)) (b := dot q g) (by omega) (by omega)
      rw [Int.neg_mul] at e1 e2
      omega
theorem chg_T : ∀ {l : List Bool}, true ∈ l → 2 ≤ chg false (l ++ [false])
  | [], h => by cases h
  | true :: l, _ => by
    simp only [List.cons_append, chg]
    have : ∀ {l : List Bool}, 1 ≤ chg true (l ++ [false]) := fun {l} => by
      induction l with
      | nil => simp [chg, nq]
      | cons x l ih =>
        simp only [List.cons_append, chg]
        cases x with
        | true => omega
        | false => simp [nq] <;> omega
    have := this (l := l)
    simp [nq]
    omega
  | false :: l, h => by
    have := chg_T (l := l) (by simpa using h)
    simp only [List.cons_append, chg]
    omega
/-- around four and more, if a and b are no T and both ways between them there is one -/
theorem four {f : List Int → Bool} {l1 l2 l3 : List (List Int)} {a b d : List Int} (ha : f a = false) (hb : f b = false) (h2 : true ∈ l2.map f) (h3 : true ∈ (l3 ++ l1).map f) : 4 ≤ chg (f (lastD d (l1 ++ a :: (l2 ++ b :: l3)))) ((l1 ++ a :: (l2 ++ b :: l3)).map f) := by
  have e0 : lastD d (l1 ++ a :: (l2 ++ b :: l3)) = lastD b l3 := by
    rw [lastD_app2]
    show lastD a (l2 ++ b :: l3) = _
    rw [lastD_app2]
    rfl
  rw [e0]
  have s1 : (l1 ++ a :: (l2 ++ b :: l3)).map f = (l1.map f ++ [f a]) ++ ((l2.map f ++ [f b]) ++ l3.map f) := by simp
  rw [s1, chg_app (xs := l1.map f ++ [f a]), lastD_app, chg_app (xs := l2.map f ++ [f b]), lastD_app, ha, hb]
  have k1 := chg_T h2
  have k2 := chg_T h3
  rw [List.map_append, List.append_assoc, chg_app (xs := l3.map f)] at k2
  have e3 : f (lastD b l3) = lastD false (l3.map f) := by rw [← hb, lastD_map]
  rw [e3]
  omega
/-- the pair: what is between a above and b below is above by f -/
theorem pair_ok {m : Nat} {h f : List Int} {pts : List (List Int)} {a b : List Int} (hfl : f.length = h.length) (hV : ∀ g : List Int, g.length = h.length → around g pts ≤ 2) (hE : EdgesL h f (lastD [] pts) pts) (ha : a ∈ pts) (hb : b ∈ pts) (h1 : 0 < dot a h) (h2 : dot b h < 0) : 0 < dot a h * dot b f - dot b h * dot a f := by
  apply Decidable.byContradiction
  intro hn
  -- the functional that is 0 at a and not above 0 at b
  have gd : ∀ w, dot w (comb f (dot a h) h (-dot a f)) = dot a h * dot w f + -dot a f * dot w h := fun w => mix_dot hfl
  have gl : (comb f (dot a h) h (-dot a f)).length = h.length := (comb_len hfl).trans hfl
  generalize comb f (dot a h) h (-dot a f) = g at gd gl
  have ga : ¬ 0 < dot a g := by
    rw [gd]
    have : dot a h * dot a f + -dot a f * dot a h = 0 := by grind
    omega
  have gb : ¬ 0 < dot b g := by
    rw [gd]
    have : dot a h * dot b f + -dot a f * dot b h = dot a h * dot b f - dot b h * dot a f := by grind
    omega
  have eg : ∀ {prev : List Int} {xs : List (List Int)}, EdgesL h f prev xs → EdgesL h g prev xs := by
    intro prev xs
    induction xs generalizing prev with
    | nil => exact fun _ => trivial
    | cons p ps ih =>
      rintro ⟨⟨c1, c2⟩, r⟩
      refine ⟨⟨fun hc => ?_, fun hz => ?_⟩, ih r⟩
      · have e := Int.mul_pos h1 (c1 hc)
        rw [gd, gd]
        have z : ((dot p h).natAbs : Int) * dot prev h + ((dot prev h).natAbs : Int) * dot p h = 0 := by
          rcases opp hc with ⟨q1, q2⟩ | ⟨q1, q2⟩
          · have e1 : ((dot p h).natAbs : Int) = dot p h := by omega
            have e2 : ((dot prev h).natAbs : Int) = -dot prev h := by omega
            rw [e1, e2]
            grind
          · have e1 : ((dot p h).natAbs : Int) = -dot p h := by omega
            have e2 : ((dot prev h).natAbs : Int) = dot prev h := by omega
            rw [e1, e2]
            grind
        generalize ((dot p h).natAbs : Int) = x at e z ⊢
        generalize ((dot prev h).natAbs : Int) = y at e z ⊢
        have : x * (dot a h * dot prev f + -dot a f * dot prev h) + y * (dot a h * dot p f + -dot a f * dot p h) = dot a h * (x * dot prev f + y * dot p f) + -dot a f * (x * dot prev h + y * dot p h) := by grind
        rw [this, z, Int.mul_zero]
        omega
      · have e := Int.mul_pos h1 (c2 hz)
        rw [gd, hz]
        omega
  have hE2 := eg hE
  have hV2 := hV g gl
  have fa : pos g a = false := decide_eq_false ga
  have fb : pos g b = false := decide_eq_false gb
  have tr : ∀ {xs : List (List Int)}, ¬ (∀ q ∈ xs, ¬ 0 < dot q g) → true ∈ xs.map (pos g) := fun {xs} hx => by
    refine Decidable.byContradiction fun hh => hx fun q hq hq2 => hh ?_
    exact List.mem_map.mpr ⟨q, hq, decide_eq_true hq2⟩
  have ne : a ≠ b := fun z => by
    rw [z] at h1
    omega
  obtain ⟨l1, r, rfl⟩ := List.append_of_mem ha
  unfold around at hV2
  -- the cut at a: b stands ahead of it or behind
  rcases List.mem_append.mp hb with hb1 | hb1
  · obtain ⟨m1, m2, rfl⟩ := List.append_of_mem hb1
    -- m1 ++ b :: (m2 ++ a :: r)
    have sh : m1 ++ b :: m2 ++ a :: r = m1 ++ b :: (m2 ++ a :: r) := by simp
    rw [sh] at hV2 hE2
    have k := edges_app hE2
    have k2 := edges_app (xs := m2) k.2.2
    have hl : lastD [] (m1 ++ b :: (m2 ++ a :: r)) = lastD a r := by
      rw [lastD_app2]
      show lastD b (m2 ++ a :: r) = _
      rw [lastD_app2]
      rfl
    have t2 : true ∈ m2.map (pos g) := tr fun hx => by
      have := walkN k2.1 h2 gb hx
      have q := k2.2.1.1
      have w := walkN (p := b) (xs := m2 ++ [a]) (by
        have := edges_app (xs := m2 ++ [a]) (ys := r) (prev := b) (h := h) (g := g) (by rw [List.append_assoc]; exact k.2.2)
        exact this.1) h2 gb (fun q hq => by
          rcases List.mem_append.mp hq with hq | hq
          · exact hx q hq
          · rw [List.mem_singleton.mp hq]
            exact ga)
      rw [lastD_app] at w
      omega
    have t3 : true ∈ (r ++ m1).map (pos g) := tr fun hx => by
      have w1 := walkP (p := a) (xs := r) k2.2.2 h1 ga fun q hq => hx q (List.mem_append_left _ hq)
      have ng : ¬ 0 < dot (lastD a r) g := by
        by_cases hr : r = []
        · rw [hr]
          exact ga
        · exact hx _ (List.mem_append_left _ (lastD_mem hr))
      have k0 : EdgesL h g (lastD a r) (m1 ++ [b]) := by
        rw [hl] at hE2
        have := edges_app (xs := m1 ++ [b]) (ys := m2 ++ a :: r) (h := h) (g := g) (prev := lastD a r) (by rw [List.append_assoc]; exact hE2)
        exact this.1
      have w2 := walkP k0 w1 ng fun q hq => by
        rcases List.mem_append.mp hq with hq | hq
        · exact hx q (List.mem_append_right _ hq)
        · rw [List.mem_singleton.mp hq]
          exact gb
      rw [lastD_app] at w2
      omega
    have := four (f := pos g) (d := []) fb fa t2 t3
    omega
  · have hb2 : b ∈ r := by
      rcases List.mem_cons.mp hb1 with q | q
      · exact absurd q.symm ne
      · exact q
    obtain ⟨m2, m3, rfl⟩ := List.append_of_mem hb2
    have k := edges_app hE2
    have k2 := edges_app (xs := m2) k.2.2
    have hl : lastD [] (l1 ++ a :: (m2 ++ b :: m3)) = lastD b m3 := by
      rw [lastD_app2]
      show lastD a (m2 ++ b :: m3) = _
      rw [lastD_app2]
      rfl
    have t2 : true ∈ m2.map (pos g) := tr fun hx => by
      have w := walkP (p := a) (xs := m2 ++ [b]) (by
        have := edges_app (xs := m2 ++ [b]) (ys := m3) (prev := a) (h := h) (g := g) (by rw [List.append_assoc]; exact k.2.2)
        exact this.1) h1 ga (fun q hq => by
          rcases List.mem_append.mp hq with hq | hq
          · exact hx q hq
          · rw [List.mem_singleton.mp hq]
            exact gb)
      rw [lastD_app] at w
      omega
    have t3 : true ∈ (m3 ++ l1).map (pos g) := tr fun hx => by
      have w1 := walkN (p := b) (xs := m3) k2.2.2 h2 gb fun q hq => hx q (List.mem_append_left _ hq)
      have ng : ¬ 0 < dot (lastD b m3) g := by
        by_cases hr : m3 = []
        · rw [hr]
          exact gb
        · exact hx _ (List.mem_append_left _ (lastD_mem hr))
      have k0 : EdgesL h g (lastD b m3) (l1 ++ [a]) := by
        rw [hl] at hE2
        have := edges_app (xs := l1 ++ [a]) (ys := m2 ++ b :: m3) (h := h) (g := g) (prev := lastD b m3) (by rw [List.append_assoc]; exact hE2)
        exact this.1
      have w2 := walkN k0 w1 ng fun q hq => by
        rcases List.mem_append.mp hq with hq | hq
        · exact hx q (List.mem_append_right _ hq)
        · rw [List.mem_singleton.mp hq]
          exact ga
      rw [lastD_app] at w2
      omega
    have := four (f := pos g) (d := []) fa fb t2 t3
    omega
end Hs
namespace Hs
theorem ratio_trans {fa fb fc ha hb hc : Int} (p : 0 < hb) (pa : 0 < ha) (pc : 0 < hc) (h1 : fa * hb ≤ fb * ha) (h2 : fb * hc ≤ fc * hb) : fa * hc ≤ fc * ha := by
  have e1 := Int.mul_le_mul_of_nonneg_right h1 (Int.le_of_lt pc)
  have e2 := Int.mul_le_mul_of_nonneg_right h2 (Int.le_of_lt pa)
  have e3 : hb * (fa * hc) ≤ hb * (fc * ha) := by
    have q1 : hb * (fa * hc) = fa * hb * hc := by grind
    have q2 : hb * (fc * ha) = fc * hb * ha := by grind
    have q3 : fb * ha * hc = fb * hc * ha := by grind
    omega
  exact Int.le_of_mul_le_mul_left e3 p
/-- among those above the height 0 one of the least f by h -/
theorem least_ratio {f h : List Int → Int} : ∀ {pts : List (List Int)}, (∃ a ∈ pts, 0 < h a) → ∃ a ∈ pts, 0 < h a ∧ ∀ b ∈ pts, 0 < h b → f a * h b ≤ f b * h a
  | [], ⟨a, q, _⟩ => by cases q
  | x :: pts, _ => by
    by_cases hx : ∃ a ∈ pts, 0 < h a
    · obtain ⟨a, q1, q2, q3⟩ := least_ratio (f := f) hx
      by_cases hx1 : 0 < h x
      · by_cases hx2 : f x * h a ≤ f a * h x
        · refine ⟨x, List.mem_cons_self .., hx1, fun b hb hb1 => ?_⟩
          rcases List.mem_cons.mp hb with rfl | hb
          · exact Int.le_refl _
          · exact ratio_trans q2 hx1 hb1 hx2 (q3 b hb hb1)
        · refine ⟨a, List.mem_cons_of_mem _ q1, q2, fun b hb hb1 => ?_⟩
          rcases List.mem_cons.mp hb with rfl | hb
          · omega
          · exact q3 b hb hb1
      · refine ⟨a, List.mem_cons_of_mem _ q1, q2, fun b hb hb1 => ?_⟩
        rcases List.mem_cons.mp hb with rfl | hb
        · exact absurd hb1 hx1
        · exact q3 b hb hb1
    · rename_i hh
      obtain ⟨a, q1, q2⟩ := hh
      rcases List.mem_cons.mp q1 with rfl | q1
      · refine ⟨a, List.mem_cons_self .., q2, fun b hb hb1 => ?_⟩
        rcases List.mem_cons.mp hb with rfl | hb
        · exact Int.le_refl _
        · exact absurd ⟨b, hb, hb1⟩ hx
      · exact absurd ⟨a, q1, q2⟩ hx
theorem big {f : List Int → Int} : ∀ pts : List (List Int), ∃ N : Int, 0 < N ∧ ∀ p ∈ pts, -f p < N
  | [] => ⟨1, by decide, fun p hp => by cases hp⟩
  | x :: pts => by
    obtain ⟨N, n0, hN⟩ := big (f := f) pts
    refine ⟨N + (f x).natAbs + 1, by omega, fun p hp => ?_⟩
    rcases List.mem_cons.mp hp with rfl | hp
    · omega
    · have := hN p hp
      omega
theorem cutL_mem {h x : List Int} : ∀ {prev : List Int} {ps : List (List Int)}, x ∈ cutL h prev ps → (x ∈ ps ∧ 0 ≤ dot x h) ∨ ∃ q ∈ prev :: ps, ∃ p ∈ ps, dot p h * dot q h < 0 ∧ x = betw q (dot q h) p (dot p h)
  | prev, [], hx => by cases hx
  | prev, p :: ps, hx => by
    rcases List.mem_append.mp hx with hx | hx
    · rcases List.mem_append.mp hx with hx | hx
      · split at hx
        · rename_i hc
          exact .inr ⟨prev, List.mem_cons_self .., p, List.mem_cons_self .., hc, List.mem_singleton.mp hx⟩
        · cases hx
      · split at hx
        · rename_i hc
          rw [List.mem_singleton.mp hx]
          exact .inl ⟨List.mem_cons_self .., hc⟩
        · cases hx
    · rcases cutL_mem hx with ⟨q1, q2⟩ | ⟨q, q1, r, r1, q2, q3⟩
      · exact .inl ⟨List.mem_cons_of_mem _ q1, q2⟩
      · exact .inr ⟨q, List.mem_cons_of_mem _ q1, r, List.mem_cons_of_mem _ r1, q2, q3⟩
theorem cut_edges {m : Nat} {h f : List Int} : ∀ {prev : List Int} {ps : List (List Int)}, Wt m prev → (∀ p ∈ ps, Wt m p) → (∀ p ∈ cutL h prev ps, 0 < dot p f) → EdgesL h f prev ps
  | prev, [], _, _, _ => trivial
  | prev, p :: ps, h1, h2, h3 => by
    have hp := h2 p (List.mem_cons_self ..)
    refine ⟨⟨fun hc => ?_, fun hz => ?_⟩, cut_edges hp (fun q hq => h2 q (List.mem_cons_of_mem _ hq)) fun q hq => h3 q (List.mem_append_right _ hq)⟩
    · have := h3 (betw prev (dot prev h) p (dot p h)) (List.mem_append_left _ (List.mem_append_left _ (by rw [if_pos hc]; exact List.mem_cons_self ..)))
      obtain ⟨_, g, g0, _, k⟩ := betw_ok h1 hp hc
      rw [← k f]
      exact Int.mul_pos g0 this
    · exact h3 p (List.mem_append_left _ (List.mem_append_right _ (by rw [if_pos (by omega)]; exact List.mem_cons_self ..)))
/-- what holds of the points that are left -/
structure CutOk (m : Nat) (init hs pts : List (List Int)) : Prop where
  mem : ∀ p ∈ pts, InS m hs p
  dual : ∀ f : List Int, f.length = m → (∀ p ∈ pts, 0 < dot p f) → ∀ u, InS m hs u → 0 < dot u f
  ar : ∀ f : List Int, f.length = m → around f pts ≤ 2
  tight : ∀ p ∈ pts, p ∈ init ∨ ∃ h ∈ hs, dot p h = 0
theorem cut_ok {m : Nat} {init hs pts : List (List Int)} {h : List Int} (hm : h.length = m) (C : CutOk m init hs pts) : CutOk m init (hs ++ [h]) (cutA h pts) := by
  have hw : ∀ p ∈ pts, Wt m p := fun p hp => (C.mem p hp).1
  have memh : ∀ {u : List Int}, InS m (hs ++ [h]) u ↔ InS m hs u ∧ 0 ≤ dot u h := fun {u} => by
    constructor
    · intro q
      exact ⟨⟨q.1, fun k hk => q.2 k (List.mem_append_left _ hk)⟩, q.2 h (List.mem_append_right _ (List.mem_singleton.mpr rfl))⟩
    · intro q
      refine ⟨q.1.1, fun k hk => ?_⟩
      rcases List.mem_append.mp hk with hk | hk
      · exact q.1.2 k hk
      · rw [List.mem_singleton.mp hk]
        exact q.2
  by_cases hn : pts = []
  · subst hn
    refine ⟨fun p hp => (by cases hp), fun f hf _ u hu => ?_, fun f _ => Nat.zero_le _, fun p hp => (by cases hp)⟩
    exact C.dual f hf (fun p hp => by cases hp) u (memh.mp hu).1
  · have hlm := lastD_mem (d := []) hn
    have hl := hw _ hlm
    refine ⟨fun x hx => ?_, fun f hf hpos u hu => ?_, fun f hf => Nat.le_trans (cut_around hw) (C.ar f hf), fun x hx => ?_⟩
    · rcases cutL_mem hx with ⟨q1, q2⟩ | ⟨q, q1, p, p1, hc, rfl⟩
      · exact memh.mpr ⟨C.mem x q1, q2⟩
      · have qm : q ∈ pts := by
          rcases List.mem_cons.mp q1 with rfl | q1
          · exact hlm
          · exact q1
        obtain ⟨w, g, g0, _, k⟩ := betw_ok (hw q qm) (hw p p1) hc
        refine memh.mpr ⟨⟨w, fun j hj => ?_⟩, by rw [betw_h (hw q qm) (hw p p1) hc]; exact Int.le_refl 0⟩
        have e := k j
        have e1 := Int.mul_nonneg (a := ((dot p h).natAbs : Int)) (by omega) ((C.mem q qm).2 j hj)
        have e2 := Int.mul_nonneg (a := ((dot q h).natAbs : Int)) (by omega) ((C.mem p p1).2 j hj)
        apply Decidable.byContradiction
        intro hneg
        have := Int.mul_neg_of_pos_of_neg g0 (b := dot (betw q (dot q h) p (dot p h)) j) (by omega)
        omega
    · obtain ⟨hu1, hu2⟩ := memh.mp hu
      have hE := cut_edges hl hw hpos
      have pr := fun {a b : List Int} (ha : a ∈ pts) (hb : b ∈ pts) (q1 : 0 < dot a h) (q2 : dot b h < 0) => pair_ok (m := m) (hf.trans hm.symm) (fun g hg => C.ar g (hg.trans hm)) hE ha hb q1 q2
      have kept : ∀ p ∈ pts, 0 ≤ dot p h → 0 < dot p f := fun p hp q => by
        refine hpos p ?_
        have : ∀ {prev : List Int} {ps : List (List Int)}, p ∈ ps → p ∈ cutL h prev ps := by
          intro prev ps
          induction ps generalizing prev with
          | nil => exact fun z => by cases z
          | cons x xs ih =>
            intro z
            rcases List.mem_cons.mp z with rfl | z
            · exact List.mem_append_left _ (List.mem_append_right _ (by rw [if_pos q]; exact List.mem_cons_self ..))
            · exact List.mem_append_right _ (ih z)
        exact this hp
      obtain ⟨N, n0, hN⟩ := big (f := fun p => dot p f) pts
      apply Decidable.byContradiction
      intro hneg
      by_cases hx : ∃ a ∈ pts, 0 < dot a h
      · obtain ⟨a, a1, a2, a3⟩ := least_ratio (f := fun p => dot p f) (h := fun p => dot p h) hx
        have fa := kept a a1 (Int.le_of_lt a2)
        -- N * (h a * f - f a * h) + f
        have gd : ∀ w, dot w (comb f (N * dot a h + 1) h (-(N * dot a f))) = (N * dot a h + 1) * dot w f + -(N * dot a f) * dot w h := fun w => mix_dot (hf.trans hm.symm)
        have key : ∀ w, (N * dot a h + 1) * dot w f + -(N * dot a f) * dot w h = N * (dot a h * dot w f - dot a f * dot w h) + dot w f := fun w => by grind
        have q := C.dual (comb f (N * dot a h + 1) h (-(N * dot a f))) ((comb_len (hf.trans hm.symm)).trans hf) (fun p hp => ?_) u hu1
        · rw [gd, key] at q
          have e1 := Int.mul_nonneg_of_nonpos_of_nonpos (a := -dot a h) (b := dot u f) (by omega) (by omega)
          rw [Int.neg_mul] at e1
          have e2 := Int.mul_nonneg (Int.le_of_lt fa) hu2
          have e3 := Int.mul_nonneg_of_nonpos_of_nonpos (a := -N) (b := dot a h * dot u f - dot a f * dot u h) (by omega) (by omega)
          rw [Int.neg_mul] at e3
          omega
        · rw [gd, key]
          rcases Int.lt_trichotomy (dot p h) 0 with z | z | z
          · have e1 := pr a1 hp a2 z
            have e2 : dot a h * dot p f - dot a f * dot p h = dot a h * dot p f - dot p h * dot a f := by grind
            rw [e2]
            have e3 := Int.mul_le_mul_of_nonneg_left (c := N) (show (1 : Int) ≤ dot a h * dot p f - dot p h * dot a f by omega) (by omega)
            have e4 : -dot p f < N := hN p hp
            omega
          · have e1 := kept p hp (by omega)
            rw [z, Int.mul_zero, Int.sub_zero]
            have e2 := Int.mul_nonneg (a := N) (by omega) (Int.mul_nonneg (Int.le_of_lt a2) (Int.le_of_lt e1))
            omega
          · have e1 := kept p hp (by omega)
            have e2 : dot a f * dot p h ≤ dot p f * dot a h := a3 p hp z
            have e3 : dot p f * dot a h = dot a h * dot p f := Int.mul_comm ..
            have e4 := Int.mul_nonneg (a := N) (b := dot a h * dot p f - dot a f * dot p h) (by omega) (by omega)
            omega
      · -- none above: N * (-h) + f
        have gd : ∀ w, dot w (comb f 1 h (-N)) = 1 * dot w f + -N * dot w h := fun w => mix_dot (hf.trans hm.symm)
        have q := C.dual (comb f 1 h (-N)) ((comb_len (hf.trans hm.symm)).trans hf) (fun p hp => ?_) u hu1
        · rw [gd, Int.one_mul, Int.neg_mul] at q
          have e1 := Int.mul_nonneg (a := N) (by omega) hu2
          omega
        · rw [gd, Int.one_mul, Int.neg_mul]
          rcases Int.lt_trichotomy (dot p h) 0 with z | z | z
          · have e3 := Int.mul_le_mul_of_nonneg_left (c := N) (show (1 : Int) ≤ -dot p h by omega) (by omega)
            rw [Int.mul_neg] at e3
            have e4 : -dot p f < N := hN p hp
            omega
          · have e1 := kept p hp (by omega)
            rw [z, Int.mul_zero]
            omega
          · exact absurd ⟨p, hp, z⟩ hx
    · rcases cutL_mem hx with ⟨q1, q2⟩ | ⟨q, q1, p, p1, hc, rfl⟩
      · rcases C.tight x q1 with z | ⟨j, z1, z2⟩
        · exact .inl z
        · exact .inr ⟨j, List.mem_append_left _ z1, z2⟩
      · have qm : q ∈ pts := by
          rcases List.mem_cons.mp q1 with rfl | q1
          · exact hlm
          · exact q1
        exact .inr ⟨h, List.mem_append_right _ (List.mem_singleton.mpr rfl), betw_h (hw q qm) (hw p p1) hc⟩
/-- all cuts -/
def cutAll : List (List Int) → List (List Int) → List (List Int)
  | pts, [] => pts
  | pts, h :: hs => cutAll (cutA h pts) hs
theorem cutAll_ok {m : Nat} {init : List (List Int)} : ∀ {hs hs0 pts : List (List Int)}, (∀ h ∈ hs, h.length = m) → CutOk m init hs0 pts → CutOk m init (hs0 ++ hs) (cutAll pts hs)
  | [], hs0, pts, _, C => by
    rw [List.append_nil]
    exact C
  | h :: hs, hs0, pts, hm, C => by
    have := cutAll_ok (hs := hs) (hs0 := hs0 ++ [h]) (fun k hk => hm k (List.mem_cons_of_mem _ hk)) (cut_ok (hm h (List.mem_cons_self ..)) C)
    rw [List.append_assoc] at this
    exact this
/-! ### the corners of a piece -/
def unit2 : List (List Int) := [[1, 0], [0, 1]]
theorem start2 : CutOk 2 unit2 [] unit2 := by
  refine ⟨fun p hp => ?_, fun f hf hp u hu => ?_, fun f hf => ?_, fun p hp => .inl hp⟩
  · have e : p = [1, 0] ∨ p = [0, 1] := by simpa [unit2] using hp
    rcases e with rfl | rfl
    · exact ⟨⟨rfl, by decide, by decide⟩, fun h hh => by cases hh⟩
    · exact ⟨⟨rfl, by decide, by decide⟩, fun h hh => by cases hh⟩
  · obtain ⟨x, y, rfl⟩ : ∃ x y, f = [x, y] := match f, hf with | [x, y], _ => ⟨x, y, rfl⟩
    obtain ⟨⟨l, nn, ps⟩, _⟩ := hu
    obtain ⟨a, b, rfl⟩ : ∃ a b, u = [a, b] := match u, l with | [a, b], _ => ⟨a, b, rfl⟩
    have h1 := hp [1, 0] (by simp [unit2])
    have h2 := hp [0, 1] (by simp [unit2])
    simp [dot, ones] at h1 h2 ps ⊢
    have a0 := nn a (by simp)
    have b0 := nn b (by simp)
    have e1 := Int.mul_nonneg a0 (Int.le_of_lt h1)
    have e2 := Int.mul_nonneg b0 (Int.le_of_lt h2)
    rcases (show 0 < a ∨ 0 < b by omega) with q | q
    · have := Int.mul_pos q h1
      omega
    · have := Int.mul_pos q h2
      omega
  · have : ∀ a b : Bool, chg b [a, b] ≤ 2 := by decide
    exact this _ _
theorem cut2_ok {hs : List (List Int)} (hm : ∀ h ∈ hs, h.length = 2) : CutOk 2 unit2 hs (cutAll unit2 hs) := by
  have := cutAll_ok (hs0 := []) hm start2
  rw [List.nil_append] at this
  exact this
theorem CutOk.none_iff {m : Nat} {init hs pts : List (List Int)} (C : CutOk m init hs pts) : pts = [] ↔ ¬ ∃ u, InS m hs u := by
  constructor
  · rintro rfl ⟨u, hu⟩
    have h1 := C.dual (ones m) (by simp [ones]) (fun p hp => by cases hp) u hu
    have h2 := C.dual (comb (ones m) (-1) (ones m) 0) (by rw [comb_len rfl]; simp [ones]) (fun p hp => by cases hp) u hu
    rw [mix_dot rfl] at h2
    omega
  · intro h
    cases pts with
    | nil => rfl
    | cons p ps => exact absurd ⟨p, C.mem p (List.mem_cons_self ..)⟩ h
end Hs
namespace Hs
/-! ### pieces that meet -/
def CutP (a b c d : Pt) : Prop := (cross a b c * cross a b d < 0 ∧ cross c d a * cross c d b < 0) ∨ OnP a b c ∨ OnP a b d ∨ OnP c d a ∨ OnP c d b
instance (a b c d : Pt) : Decidable (CutP a b c d) := by
  unfold CutP
  infer_instance
def Meet (a b c d : Pt) : Prop := ∃ w0 w1 v0 v1 : Int, 0 ≤ w0 ∧ 0 ≤ w1 ∧ 0 ≤ v0 ∧ 0 ≤ v1 ∧ 0 < w0 + w1 ∧ w0 + w1 = v0 + v1 ∧ w0 * a.1 + w1 * b.1 = v0 * c.1 + v1 * d.1 ∧ w0 * a.2 + w1 * b.2 = v0 * c.2 + v1 * d.2
def BoxM (p q : Blk) : Prop := p.left ≤ q.right ∧ q.left ≤ p.right ∧ p.low ≤ q.high ∧ q.low ≤ p.high
instance (p q : Blk) : Decidable (BoxM p q) := by
  unfold BoxM
  infer_instance
def Bes (a b : Pt) (xs : List Pt) : Prop := (∀ x ∈ xs, 0 < cross a b x) ∨ (∀ x ∈ xs, cross a b x < 0)
instance (a b : Pt) (xs : List Pt) : Decidable (Bes a b xs) := by
  unfold Bes
  infer_instance
def Sat (a b c d : Pt) : Prop := BoxM (boxOf a b) (boxOf c d) ∧ ¬ Bes a b [c, d] ∧ ¬ Bes c d [a, b]
instance (a b c d : Pt) : Decidable (Sat a b c d) := by
  unfold Sat
  infer_instance
theorem mn_le (i j : Int) : mn i j ≤ i ∧ mn i j ≤ j := by
  unfold mn
  split <;> omega
theorem le_mx (i j : Int) : i ≤ mx i j ∧ j ≤ mx i j := by
  unfold mx
  split <;> omega
theorem mn_or (i j : Int) : mn i j = i ∨ mn i j = j := by
  unfold mn
  split <;> omega
theorem mx_or (i j : Int) : mx i j = i ∨ mx i j = j := by
  unfold mx
  split <;> omega
theorem Meet.symm {a b c d : Pt} (h : Meet a b c d) : Meet c d a b := by
  obtain ⟨w0, w1, v0, v1, h1, h2, h3, h4, h5, h6, h7, h8⟩ := h
  exact ⟨v0, v1, w0, w1, h3, h4, h1, h2, by omega, h6.symm, h7.symm, h8.symm⟩
/-- a point of a piece as a combination of its ends -/
theorem onp_comb {a b c : Pt} (h : OnP a b c) : ∃ w0 w1 : Int, 0 ≤ w0 ∧ 0 ≤ w1 ∧ 0 < w0 + w1 ∧ w0 * a.1 + w1 * b.1 = (w0 + w1) * c.1 ∧ w0 * a.2 + w1 * b.2 = (w0 + w1) * c.2 := by
  obtain ⟨h0, h1, h2, h3, h4⟩ := h
  obtain ⟨a1, a2⟩ := a
  obtain ⟨b1, b2⟩ := b
  obtain ⟨c1, c2⟩ := c
  unfold cross at h0
  unfold mn at h1 h3
  unfold mx at h2 h4
  simp only at h0 h1 h2 h3 h4 ⊢
  rcases Int.lt_trichotomy a1 b1 with q | q | q
  · refine ⟨b1 - c1, c1 - a1, by split at h2 <;> omega, by split at h1 <;> omega, by omega, by grind, by grind⟩
  · subst q
    have e : c1 = a1 := by split at h1 <;> split at h2 <;> omega
    subst e
    rcases Int.lt_trichotomy a2 b2 with q | q | q
    · refine ⟨b2 - c2, c2 - a2, by split at h4 <;> omega, by split at h3 <;> omega, by omega, by grind, by grind⟩
    · subst q
      have e : c2 = a2 := by split at h3 <;> split at h4 <;> omega
      subst e
      exact ⟨1, 0, by decide, by decide, by decide, by omega, by omega⟩
    · refine ⟨c2 - b2, a2 - c2, by split at h3 <;> omega, by split at h4 <;> omega, by omega, by grind, by grind⟩
  · refine ⟨c1 - b1, a1 - c1, by split at h1 <;> omega, by split at h2 <;> omega, by omega, by grind, by grind⟩
theorem onp_meet {a b c d : Pt} (h : OnP a b c) : Meet a b c d := by
  obtain ⟨w0, w1, h1, h2, h3, h4, h5⟩ := onp_comb h
  exact ⟨w0, w1, w0 + w1, 0, h1, h2, by omega, by omega, h3, by omega, by omega, by omega⟩
theorem onp_meet2 {a b c d : Pt} (h : OnP a b d) : Meet a b c d := by
  obtain ⟨w0, w1, h1, h2, h3, h4, h5⟩ := onp_comb h
  exact ⟨w0, w1, 0, w0 + w1, h1, h2, by omega, by omega, h3, by omega, by omega, by omega⟩
/-- the two ways to tell how far they turn -/
theorem turn_id (a b c d : Pt) : cross c d a - cross c d b = cross a b d - cross a b c := by
  unfold cross
  grind
theorem point_id1 (a b c d : Pt) : -cross c d b * a.1 + cross c d a * b.1 = cross a b d * c.1 - cross a b c * d.1 := by
  unfold cross
  grind
theorem point_id2 (a b c d : Pt) : -cross c d b * a.2 + cross c d a * b.2 = cross a b d * c.2 - cross a b c * d.2 := by
  unfold cross
  grind
theorem cut_meet {a b c d : Pt} (h : CutP a b c d) : Meet a b c d := by
  rcases h with ⟨h1, h2⟩ | h | h | h | h
  · have t := turn_id a b c d
    have p1 := point_id1 a b c d
    have p2 := point_id2 a b c d
    generalize cross a b c = s1 at *
    generalize cross a b d = s2 at *
    generalize cross c d a = t1 at *
    generalize cross c d b = t2 at *
    rcases opp h1 with ⟨q1, q2⟩ | ⟨q1, q2⟩
    · have r : 0 < t2 ∧ t1 < 0 := by rcases opp h2 with q | q <;> omega
      refine ⟨t2, -t1, -s2, s1, by omega, by omega, by omega, by omega, by omega, by omega, by grind, by grind⟩
    · have r : t2 < 0 ∧ 0 < t1 := by rcases opp h2 with q | q <;> omega
      refine ⟨-t2, t1, s2, -s1, by omega, by omega, by omega, by omega, by omega, by omega, by grind, by grind⟩
  · exact onp_meet h
  · exact onp_meet2 h
  · exact (onp_meet h).symm
  · exact (onp_meet2 h).symm
theorem cross_comb {a b c d : Pt} {w0 w1 v0 v1 : Int} (hk : w0 + w1 = v0 + v1) (h1 : w0 * a.1 + w1 * b.1 = v0 * c.1 + v1 * d.1) (h2 : w0 * a.2 + w1 * b.2 = v0 * c.2 + v1 * d.2) : w0 * cross c d a + w1 * cross c d b = 0 := by
  have e : w0 * cross c d a + w1 * cross c d b = (d.1 - c.1) * (w0 * a.2 + w1 * b.2 - (w0 + w1) * c.2) - (d.2 - c.2) * (w0 * a.1 + w1 * b.1 - (w0 + w1) * c.1) := by
    unfold cross
    grind
  rw [e, h1, h2, hk]
  grind
theorem nobes {x y w0 w1 : Int} (h0 : 0 ≤ w0) (h1 : 0 ≤ w1) (hk : 0 < w0 + w1) (h : w0 * x + w1 * y = 0) : ¬ (0 < x ∧ 0 < y) ∧ ¬ (x < 0 ∧ y < 0) := by
  constructor
  · rintro ⟨hx, hy⟩
    have e1 := Int.mul_nonneg h0 (Int.le_of_lt hx)
    have e2 := Int.mul_nonneg h1 (Int.le_of_lt hy)
    rcases (show 0 < w0 ∨ 0 < w1 by omega) with q | q
    · have := Int.mul_pos q hx
      omega
    · have := Int.mul_pos q hy
      omega
  · rintro ⟨hx, hy⟩
    have e1 := Int.mul_nonneg_of_nonpos_of_nonpos (a := -w0) (b := x) (by omega) (by omega)
    have e2 := Int.mul_nonneg_of_nonpos_of_nonpos (a := -w1) (b := y) (by omega) (by omega)
    rw [Int.neg_mul] at e1 e2
    rcases (show 0 < w0 ∨ 0 < w1 by omega) with q | q
    · have := Int.mul_neg_of_pos_of_neg q hx
      omega
    · have := Int.mul_neg_of_pos_of_neg q hy
      omega
theorem bes2 {a b c d : Pt} : Bes a b [c, d] ↔ (0 < cross a b c ∧ 0 < cross a b d) ∨ (cross a b c < 0 ∧ cross a b d < 0) := by
  unfold Bes
  simp
/-- a combination lies between -/
theorem comb_ge {x y m w0 w1 : Int} (h0 : 0 ≤ w0) (h1 : 0 ≤ w1) (hx : m ≤ x) (hy : m ≤ y) : (w0 + w1) * m ≤ w0 * x + w1 * y := by
  have e1 := Int.mul_le_mul_of_nonneg_left hx h0
  have e2 := Int.mul_le_mul_of_nonneg_left hy h1
  rw [Int.add_mul]
  omega
theorem comb_le {x y m w0 w1 : Int} (h0 : 0 ≤ w0) (h1 : 0 ≤ w1) (hx : x ≤ m) (hy : y ≤ m) : w0 * x + w1 * y ≤ (w0 + w1) * m := by
  have e1 := Int.mul_le_mul_of_nonneg_left hx h0
  have e2 := Int.mul_le_mul_of_nonneg_left hy h1
  rw [Int.add_mul]
  omega
theorem meet_sat {a b c d : Pt} (h : Meet a b c d) : Sat a b c d := by
  obtain ⟨w0, w1, v0, v1, h1, h2, h3, h4, h5, h6, h7, h8⟩ := h
  have n1 := nobes h1 h2 h5 (cross_comb h6 h7 h8)
  have n2 := nobes h3 h4 (by omega) (cross_comb h6.symm h7.symm h8.symm)
  refine ⟨?_, fun z => ?_, fun z => ?_⟩
  · have a1 := comb_ge h1 h2 (mn_le a.1 b.1).1 (mn_le a.1 b.1).2
    have a2 := comb_le h1 h2 (le_mx a.1 b.1).1 (le_mx a.1 b.1).2
    have a3 := comb_ge h1 h2 (mn_le a.2 b.2).1 (mn_le a.2 b.2).2
    have a4 := comb_le h1 h2 (le_mx a.2 b.2).1 (le_mx a.2 b.2).2
    have b1 := comb_ge h3 h4 (mn_le c.1 d.1).1 (mn_le c.1 d.1).2
    have b2 := comb_le h3 h4 (le_mx c.1 d.1).1 (le_mx c.1 d.1).2
    have b3 := comb_ge h3 h4 (mn_le c.2 d.2).1 (mn_le c.2 d.2).2
    have b4 := comb_le h3 h4 (le_mx c.2 d.2).1 (le_mx c.2 d.2).2
    rw [← h6] at b1 b2 b3 b4
    generalize w0 + w1 = k at *
    refine ⟨?_, ?_, ?_, ?_⟩
    · exact Int.le_of_mul_le_mul_left (show k * mn a.1 b.1 ≤ k * mx c.1 d.1 by omega) h5
    · exact Int.le_of_mul_le_mul_left (show k * mn c.1 d.1 ≤ k * mx a.1 b.1 by omega) h5
    · exact Int.le_of_mul_le_mul_left (show k * mn a.2 b.2 ≤ k * mx c.2 d.2 by omega) h5
    · exact Int.le_of_mul_le_mul_left (show k * mn c.2 d.2 ≤ k * mx a.2 b.2 by omega) h5
  · rcases bes2.mp z with q | q
    · exact n2.1 q
    · exact n2.2 q
  · rcases bes2.mp z with q | q
    · exact n1.1 q
    · exact n1.2 q
/-- on the straight line, between in one direction, where that has some length: between in the other -/
theorem betw_axis {p q P Q : Int} (hp : p ≠ 0) (h : p * Q = P * q) (h1 : (0 ≤ q ∧ q ≤ p) ∨ (p ≤ q ∧ q ≤ 0)) : (0 ≤ Q ∧ Q ≤ P) ∨ (P ≤ Q ∧ Q ≤ 0) := by
  rcases h1 with ⟨h1, h2⟩ | ⟨h1, h2⟩
  · have pp : 0 < p := by omega
    rcases Int.le_total 0 P with hP | hP
    · refine .inl ⟨?_, ?_⟩
      · have := Int.mul_nonneg hP h1
        exact Int.nonneg_of_mul_nonneg_right (by rw [h]; exact this) pp
      · have := Int.mul_le_mul_of_nonneg_left h2 hP
        exact Int.le_of_mul_le_mul_left (by rw [h, Int.mul_comm p P]; exact this) pp
    · refine .inr ⟨?_, ?_⟩
      · have := Int.mul_le_mul_of_nonneg_left h2 (show 0 ≤ -P by omega)
        rw [Int.neg_mul, Int.neg_mul] at this
        exact Int.le_of_mul_le_mul_left (show p * P ≤ p * Q by rw [h, Int.mul_comm p P]; omega) pp
      · have := Int.mul_nonneg (show 0 ≤ -P by omega) h1
        rw [Int.neg_mul] at this
        exact Int.le_of_mul_le_mul_left (show p * Q ≤ p * 0 by rw [h, Int.mul_zero]; omega) pp
  · have pp : 0 < -p := by omega
    rcases Int.le_total 0 P with hP | hP
    · refine .inl ⟨?_, ?_⟩
      · have := Int.mul_nonneg hP (show 0 ≤ -q by omega)
        rw [Int.mul_neg] at this
        exact Int.nonneg_of_mul_nonneg_right (a := -p) (by rw [Int.neg_mul, h]; exact this) pp
      · have := Int.mul_le_mul_of_nonneg_left (show -q ≤ -p by omega) hP
        rw [Int.mul_neg, Int.mul_neg] at this
        exact Int.le_of_mul_le_mul_left (show -p * Q ≤ -p * P by rw [Int.neg_mul, Int.neg_mul, h, Int.mul_comm p P]; omega) pp
    · refine .inr ⟨?_, ?_⟩
      · have := Int.mul_le_mul_of_nonneg_left (show -q ≤ -p by omega) (show 0 ≤ -P by omega)
        have e1 : -P * -q = P * q := by grind
        have e2 : -P * -p = P * p := by grind
        rw [e1, e2] at this
        exact Int.le_of_mul_le_mul_left (show -p * P ≤ -p * Q by rw [Int.neg_mul, Int.neg_mul, h, Int.mul_comm p P]; omega) pp
      · have := Int.mul_nonneg (show 0 ≤ -P by omega) (show 0 ≤ -q by omega)
        have e1 : -P * -q = P * q := by grind
        rw [e1] at this
        exact Int.le_of_mul_le_mul_left (show -p * Q ≤ -p * 0 by rw [Int.neg_mul, h, Int.mul_zero]; omega) pp
theorem mnmx {a b c : Int} : (mn a b ≤ c ∧ c ≤ mx a b) ↔ (0 ≤ c - a ∧ c - a ≤ b - a) ∨ (b - a ≤ c - a ∧ c - a ≤ 0) := by
  unfold mn mx
  split <;> split <;> omega
theorem onp_axis {a b c : Pt} (h0 : cross a b c = 0) (hn : a.1 ≠ b.1) (h : mn a.1 b.1 ≤ c.1 ∧ c.1 ≤ mx a.1 b.1) : OnP a b c := by
  have e : (b.1 - a.1) * (c.2 - a.2) = (b.2 - a.2) * (c.1 - a.1) := by
    unfold cross at h0
    omega
  have := mnmx.mpr (betw_axis (by omega) e (mnmx.mp h))
  exact ⟨h0, h.1, h.2, this.1, this.2⟩
theorem onp_axis2 {a b c : Pt} (h0 : cross a b c = 0) (hn : a.2 ≠ b.2) (h : mn a.2 b.2 ≤ c.2 ∧ c.2 ≤ mx a.2 b.2) : OnP a b c := by
  have e : (b.2 - a.2) * (c.1 - a.1) = (b.1 - a.1) * (c.2 - a.2) := by
    unfold cross at h0
    omega
  have := mnmx.mpr (betw_axis (by omega) e (mnmx.mp h))
  exact ⟨h0, this.1, this.2, h.1, h.2⟩
theorem over {p q r s : Int} (h1 : mn p q ≤ mx r s) (h2 : mn r s ≤ mx p q) : (mn p q ≤ r ∧ r ≤ mx p q) ∨ (mn p q ≤ s ∧ s ≤ mx p q) ∨ (r ≠ s ∧ ((mn r s ≤ p ∧ p ≤ mx r s) ∨ (mn r s ≤ q ∧ q ≤ mx r s))) := by
  unfold mn mx at *
  split at h1 <;> split at h1 <;> split at h2 <;> split at h2 <;> (try split) <;> (try split) <;> omega
/-- where a convex combination of a, b is d times c: c is on the piece -/
theorem comb_onp {a b c : Pt} {w0 w1 : Int} (h0 : 0 ≤ w0) (h1 : 0 ≤ w1) (hk : 0 < w0 + w1) (e1 : w0 * a.1 + w1 * b.1 = (w0 + w1) * c.1) (e2 : w0 * a.2 + w1 * b.2 = (w0 + w1) * c.2) : OnP a b c := by
  have a1 := comb_ge h0 h1 (mn_le a.1 b.1).1 (mn_le a.1 b.1).2
  have a2 := comb_le h0 h1 (le_mx a.1 b.1).1 (le_mx a.1 b.1).2
  have a3 := comb_ge h0 h1 (mn_le a.2 b.2).1 (mn_le a.2 b.2).2
  have a4 := comb_le h0 h1 (le_mx a.2 b.2).1 (le_mx a.2 b.2).2
  rw [e1] at a1 a2
  rw [e2] at a3 a4
  refine ⟨?_, Int.le_of_mul_le_mul_left a1 hk, Int.le_of_mul_le_mul_left a2 hk, Int.le_of_mul_le_mul_left a3 hk, Int.le_of_mul_le_mul_left a4 hk⟩
  have z : (w0 + w1) * cross a b c = 0 := by
    have : (w0 + w1) * cross a b c = (b.1 - a.1) * ((w0 + w1) * c.2 - (w0 + w1) * a.2) - (b.2 - a.2) * ((w0 + w1) * c.1 - (w0 + w1) * a.1) := by
      unfold cross
      grind
    rw [this, ← e1, ← e2]
    grind
  rcases Int.mul_eq_zero.mp z with q | q
  · omega
  · exact q
theorem sat_cut {a b c d : Pt} (h : Sat a b c d) : CutP a b c d := by
  obtain ⟨⟨x1, x2, y1, y2⟩, n1, n2⟩ := h
  rw [bes2] at n1 n2
  have t := turn_id a b c d
  have p1 := point_id1 a b c d
  have p2 := point_id2 a b c d
  by_cases hD : cross c d a - cross c d b = 0
  · -- all on one straight line
    have s1 : cross a b c = 0 := by omega
    have s2 : cross a b d = 0 := by omega
    have t1 : cross c d a = 0 := by omega
    have t2 : cross c d b = 0 := by omega
    have ox := over x1 x2
    have oy := over y1 y2
    by_cases ha : a.1 = b.1
    · by_cases hb : a.2 = b.2
      · -- a is b
        by_cases hc : c.1 = d.1
        · by_cases hd : c.2 = d.2
          · refine .inr (.inl ⟨s1, ?_⟩)
            show mn a.1 b.1 ≤ c.1 ∧ c.1 ≤ mx a.1 b.1 ∧ mn a.2 b.2 ≤ c.2 ∧ c.2 ≤ mx a.2 b.2
            rw [← hc] at ox
            rw [← hd] at oy
            have : (boxOf a b).left = mn a.1 b.1 := rfl
            simp only [ne_eq, not_true_eq_false, false_and, or_false, or_self] at ox oy
            exact ⟨ox.1, ox.2, oy.1, oy.2⟩
          · refine .inr (.inr (.inr (.inl (onp_axis2 t1 hd ?_))))
            rw [← hb] at oy
            unfold mn mx at oy ⊢
            simp at oy ⊢
            split <;> split <;> simp_all <;> omega
        · refine .inr (.inr (.inr (.inl (onp_axis t1 hc ?_))))
          rw [← ha] at ox
          unfold mn mx at ox ⊢
          simp at ox ⊢
          split <;> split <;> simp_all <;> omega
      · rcases oy with q | q | ⟨q1, q | q⟩
        · exact .inr (.inl (onp_axis2 s1 hb q))
        · exact .inr (.inr (.inl (onp_axis2 s2 hb q)))
        · exact .inr (.inr (.inr (.inl (onp_axis2 t1 q1 q))))
        · exact .inr (.inr (.inr (.inr (onp_axis2 t2 q1 q))))
    · rcases ox with q | q | ⟨q1, q | q⟩
      · exact .inr (.inl (onp_axis s1 ha q))
      · exact .inr (.inr (.inl (onp_axis s2 ha q)))
      · exact .inr (.inr (.inr (.inl (onp_axis t1 q1 q))))
      · exact .inr (.inr (.inr (.inr (onp_axis t2 q1 q))))
  · by_cases z : cross a b c * cross a b d < 0 ∧ cross c d a * cross c d b < 0
    · exact .inl z
    · refine .inr ?_
      have key : cross a b c = 0 ∨ cross a b d = 0 ∨ cross c d a = 0 ∨ cross c d b = 0 := by
        apply Decidable.byContradiction
        intro hn
        refine z ⟨?_, ?_⟩
        · rcases (show (0 < cross a b c ∧ cross a b d < 0) ∨ (cross a b c < 0 ∧ 0 < cross a b d) by omega) with ⟨q1, q2⟩ | ⟨q1, q2⟩
          · exact Int.mul_neg_of_pos_of_neg q1 q2
          · exact Int.mul_neg_of_neg_of_pos q1 q2
        · rcases (show (0 < cross c d a ∧ cross c d b < 0) ∨ (cross c d a < 0 ∧ 0 < cross c d b) by omega) with ⟨q1, q2⟩ | ⟨q1, q2⟩
          · exact Int.mul_neg_of_pos_of_neg q1 q2
          · exact Int.mul_neg_of_neg_of_pos q1 q2
      generalize cross a b c = s1 at *
      generalize cross a b d = s2 at *
      generalize cross c d a = t1 at *
      generalize cross c d b = t2 at *
      rcases key with k | k | k | k
      · subst k
        refine .inl ?_
        rcases (show 0 < s2 ∨ s2 < 0 by omega) with q | q
        · exact comb_onp (w0 := -t2) (w1 := t1) (by omega) (by omega) (by omega) (by grind) (by grind)
        · exact comb_onp (w0 := t2) (w1 := -t1) (by omega) (by omega) (by omega) (by grind) (by grind)
      · subst k
        refine .inr (.inl ?_)
        rcases (show 0 < s1 ∨ s1 < 0 by omega) with q | q
        · exact comb_onp (w0 := t2) (w1 := -t1) (by omega) (by omega) (by omega) (by grind) (by grind)
        · exact comb_onp (w0 := -t2) (w1 := t1) (by omega) (by omega) (by omega) (by grind) (by grind)
      · subst k
        refine .inr (.inr (.inl ?_))
        rcases (show 0 < t2 ∨ t2 < 0 by omega) with q | q
        · exact comb_onp (w0 := -s2) (w1 := s1) (by omega) (by omega) (by omega) (by grind) (by grind)
        · exact comb_onp (w0 := s2) (w1 := -s1) (by omega) (by omega) (by omega) (by grind) (by grind)
      · subst k
        refine .inr (.inr (.inr ?_))
        rcases (show 0 < t1 ∨ t1 < 0 by omega) with q | q
        · exact comb_onp (w0 := s2) (w1 := -s1) (by omega) (by omega) (by omega) (by grind) (by grind)
        · exact comb_onp (w0 := -s2) (w1 := s1) (by omega) (by omega) (by omega) (by grind) (by grind)
theorem meet_iff {a b c d : Pt} : Meet a b c d ↔ CutP a b c d := ⟨fun h => sat_cut (meet_sat h), cut_meet⟩
theorem sat_iff {a b c d : Pt} : Sat a b c d ↔ CutP a b c d := ⟨sat_cut, fun h => meet_sat (cut_meet h)⟩
end Hs
namespace Hs
def rows2 (x y : List Int) : List (List Int) := List.zipWith (fun a b => [a, b]) x y
theorem rows2_len {x y : List Int} : ∀ h ∈ rows2 x y, h.length = 2 := by
  unfold rows2
  induction x generalizing y with
  | nil => intro h hh; simp at hh
  | cons a x ih =>
    cases y with
    | nil => intro h hh; simp at hh
    | cons b y =>
      intro h hh
      rw [List.zipWith_cons_cons] at hh
      rcases List.mem_cons.mp hh with rfl | hh
      · rfl
      · exact ih h hh
theorem dot2 (w0 w1 x y : Int) : dot [w0, w1] [x, y] = w0 * x + w1 * y := by simp [dot]
theorem wt2 {u : List Int} (h : Wt 2 u) : ∃ w0 w1, u = [w0, w1] ∧ 0 ≤ w0 ∧ 0 ≤ w1 ∧ 0 < w0 + w1 := by
  obtain ⟨l, nn, ps⟩ := h
  obtain ⟨a, b, rfl⟩ : ∃ a b, u = [a, b] := match u, l with | [a, b], _ => ⟨a, b, rfl⟩
  simp [dot, ones] at ps
  exact ⟨a, b, rfl, nn a (by simp), nn b (by simp), ps⟩
theorem wt2_of {w0 w1 : Int} (h0 : 0 ≤ w0) (h1 : 0 ≤ w1) (h : 0 < w0 + w1) : Wt 2 [w0, w1] := by
  refine ⟨rfl, fun x hx => ?_, by simp [dot, ones]; exact h⟩
  have : x = w0 ∨ x = w1 := by simpa using hx
  rcases this with rfl | rfl <;> assumption
theorem mn_scale {k i j : Int} (hk : 0 < k) : mn (k * i) (k * j) = k * mn i j := by
  unfold mn
  by_cases h : j < i
  · rw [if_pos h, if_pos (Int.mul_lt_mul_of_pos_left h hk)]
  · rw [if_neg h, if_neg (fun q => h (Int.lt_of_mul_lt_mul_left q (Int.le_of_lt hk)))]
theorem mx_scale {k i j : Int} (hk : 0 < k) : mx (k * i) (k * j) = k * mx i j := by
  unfold mx
  by_cases h : j > i
  · rw [if_pos h, if_pos (Int.mul_lt_mul_of_pos_left h hk)]
  · rw [if_neg h, if_neg (fun q => h (Int.lt_of_mul_lt_mul_left q (Int.le_of_lt hk)))]
theorem ins_phts {a b c d : Pt} {w0 w1 : Int} : InS 2 (rows2 (phts c d a) (phts c d b)) [w0, w1] ↔ Wt 2 [w0, w1] ∧ OnP ((w0 + w1) * c.1, (w0 + w1) * c.2) ((w0 + w1) * d.1, (w0 + w1) * d.2) (w0 * a.1 + w1 * b.1, w0 * a.2 + w1 * b.2) := by
  unfold InS
  refine and_congr_right fun hw => ?_
  obtain ⟨x, y, e, h0, h1, hk⟩ := wt2 hw
  injection e with e1 e2
  injection e2 with e2 _
  subst e1 e2
  have cr : cross ((w0 + w1) * c.1, (w0 + w1) * c.2) ((w0 + w1) * d.1, (w0 + w1) * d.2) (w0 * a.1 + w1 * b.1, w0 * a.2 + w1 * b.2) = (w0 + w1) * (w0 * cross c d a + w1 * cross c d b) := by
    unfold cross
    grind
  have crz : cross ((w0 + w1) * c.1, (w0 + w1) * c.2) ((w0 + w1) * d.1, (w0 + w1) * d.2) (w0 * a.1 + w1 * b.1, w0 * a.2 + w1 * b.2) = 0 ↔ w0 * cross c d a + w1 * cross c d b = 0 := by
    rw [cr]
    constructor
    · intro q
      rcases Int.mul_eq_zero.mp q with q | q
      · omega
      · exact q
    · intro q
      rw [q, Int.mul_zero]
  unfold OnP
  rw [crz]
  simp only [mn_scale hk, mx_scale hk]
  simp only [rows2, phts, hts, boxOf, List.zipWith_cons_cons, List.zipWith_nil_left, List.mem_cons, List.not_mem_nil, or_false, forall_eq_or_imp, forall_eq, dot2]
  generalize mn c.1 d.1 = l
  generalize mx c.1 d.1 = r
  generalize mn c.2 d.2 = lo
  generalize mx c.2 d.2 = hi
  generalize cross c d a = s
  generalize cross c d b = t
  have e1 : w0 * (a.1 - l) + w1 * (b.1 - l) = (w0 * a.1 + w1 * b.1) - (w0 + w1) * l := by grind
  have e2 : w0 * (r - a.1) + w1 * (r - b.1) = (w0 + w1) * r - (w0 * a.1 + w1 * b.1) := by grind
  have e3 : w0 * (a.2 - lo) + w1 * (b.2 - lo) = (w0 * a.2 + w1 * b.2) - (w0 + w1) * lo := by grind
  have e4 : w0 * (hi - a.2) + w1 * (hi - b.2) = (w0 + w1) * hi - (w0 * a.2 + w1 * b.2) := by grind
  rw [e1, e2, e3, e4, Int.mul_neg, Int.mul_neg]
  constructor
  · rintro ⟨q1, q2, q3, q4, q5, q6⟩
    exact ⟨by omega, by omega, by omega, by omega, by omega⟩
  · rintro ⟨q1, q3, q4, q5, q6⟩
    exact ⟨by omega, by omega, by omega, by omega, by omega, by omega⟩
theorem ins_meet {a b c d : Pt} : (∃ u, InS 2 (rows2 (phts c d a) (phts c d b)) u) ↔ Meet a b c d := by
  constructor
  · rintro ⟨u, hu⟩
    obtain ⟨w0, w1, rfl, h0, h1, hk⟩ := wt2 hu.1
    obtain ⟨_, o⟩ := ins_phts.mp hu
    obtain ⟨v0, v1, g0, g1, gk, e1, e2⟩ := onp_comb o
    simp only at e1 e2
    refine ⟨w0 * (v0 + v1), w1 * (v0 + v1), v0 * (w0 + w1), v1 * (w0 + w1), Int.mul_nonneg h0 (by omega), Int.mul_nonneg h1 (by omega), Int.mul_nonneg g0 (by omega), Int.mul_nonneg g1 (by omega), ?_, by grind, by grind, by grind⟩
    have : 0 < (w0 + w1) * (v0 + v1) := Int.mul_pos hk gk
    rw [Int.add_mul] at this
    exact this
  · rintro ⟨w0, w1, v0, v1, h0, h1, g0, g1, hk, hs, e1, e2⟩
    refine ⟨[w0, w1], ins_phts.mpr ⟨wt2_of h0 h1 hk, ?_⟩⟩
    refine comb_onp (w0 := v0) (w1 := v1) g0 g1 (by omega) ?_ ?_
    · simp only
      grind
    · simp only
      grind
theorem none_cut {a b c d : Pt} : cutAll unit2 (rows2 (phts c d a) (phts c d b)) = [] ↔ ¬ CutP a b c d := by
  rw [(cut2_ok rows2_len).none_iff, ins_meet, meet_iff]
theorem cutp_symm {a b c d : Pt} : CutP c d a b ↔ CutP a b c d := by
  rw [← meet_iff, ← meet_iff]
  exact ⟨Meet.symm, Meet.symm⟩
theorem Meet.flip {a b c d : Pt} (h : Meet a b c d) : Meet b a c d := by
  obtain ⟨w0, w1, v0, v1, h1, h2, h3, h4, h5, h6, h7, h8⟩ := h
  exact ⟨w1, w0, v0, v1, h2, h1, h3, h4, by omega, by omega, by omega, by omega⟩
theorem cutp_flip {a b c d : Pt} : CutP b a c d ↔ CutP a b c d := by
  rw [← meet_iff, ← meet_iff]
  exact ⟨Meet.flip, Meet.flip⟩
end Hs
namespace Hs
/-! ### blocks and pieces -/
def Vb (B : Blk) : Prop := B.left ≤ B.right ∧ B.low ≤ B.high
def InB (B : Blk) (x : Pt) : Prop := (B.left ≤ x.1 ∧ x.1 ≤ B.right) ∧ B.low ≤ x.2 ∧ x.2 ≤ B.high
instance (B : Blk) (x : Pt) : Decidable (InB B x) := by
  unfold InB
  infer_instance
def corners (B : Blk) : List Pt := [(B.left, B.low), (B.right, B.low), (B.right, B.high), (B.left, B.high)]
def Hits (B : Blk) (a b : Pt) : Prop := InB B a ∨ InB B b ∨ CutP a b (B.left, B.high) (B.left, B.low) ∨ CutP a b (B.left, B.low) (B.right, B.low) ∨ CutP a b (B.right, B.low) (B.right, B.high) ∨ CutP a b (B.right, B.high) (B.left, B.high)
instance (B : Blk) (a b : Pt) : Decidable (Hits B a b) := by
  unfold Hits
  infer_instance
def InK (B : Blk) (k X Y : Int) : Prop := (k * B.left ≤ X ∧ X ≤ k * B.right) ∧ k * B.low ≤ Y ∧ Y ≤ k * B.high
def MeetB (B : Blk) (a b : Pt) : Prop := ∃ w0 w1 : Int, 0 ≤ w0 ∧ 0 ≤ w1 ∧ 0 < w0 + w1 ∧ InK B (w0 + w1) (w0 * a.1 + w1 * b.1) (w0 * a.2 + w1 * b.2)
def SatB (B : Blk) (a b : Pt) : Prop := BoxM B (boxOf a b) ∧ ¬ Bes a b (corners B)
instance (B : Blk) (a b : Pt) : Decidable (SatB B a b) := by
  unfold SatB
  infer_instance
theorem ins_hts {B : Blk} {a b : Pt} {w0 w1 : Int} : InS 2 (rows2 (hts B a) (hts B b)) [w0, w1] ↔ Wt 2 [w0, w1] ∧ InK B (w0 + w1) (w0 * a.1 + w1 * b.1) (w0 * a.2 + w1 * b.2) := by
  unfold InS
  refine and_congr_right fun hw => ?_
  unfold InK
  simp only [rows2, hts, List.zipWith_cons_cons, List.zipWith_nil_left, List.mem_cons, List.not_mem_nil, or_false, forall_eq_or_imp, forall_eq, dot2]
  have e1 : w0 * (a.1 - B.left) + w1 * (b.1 - B.left) = (w0 * a.1 + w1 * b.1) - (w0 + w1) * B.left := by grind
  have e2 : w0 * (B.right - a.1) + w1 * (B.right - b.1) = (w0 + w1) * B.right - (w0 * a.1 + w1 * b.1) := by grind
  have e3 : w0 * (a.2 - B.low) + w1 * (b.2 - B.low) = (w0 * a.2 + w1 * b.2) - (w0 + w1) * B.low := by grind
  have e4 : w0 * (B.high - a.2) + w1 * (B.high - b.2) = (w0 + w1) * B.high - (w0 * a.2 + w1 * b.2) := by grind
  rw [e1, e2, e3, e4]
  constructor
  · rintro ⟨q1, q2, q3, q4⟩
    exact ⟨⟨by omega, by omega⟩, by omega, by omega⟩
  · rintro ⟨⟨q1, q2⟩, q3, q4⟩
    exact ⟨by omega, by omega, by omega, by omega⟩
theorem ins_meetB {B : Blk} {a b : Pt} : (∃ u, InS 2 (rows2 (hts B a) (hts B b)) u) ↔ MeetB B a b := by
  constructor
  · rintro ⟨u, hu⟩
    obtain ⟨w0, w1, rfl, h0, h1, hk⟩ := wt2 hu.1
    exact ⟨w0, w1, h0, h1, hk, (ins_hts.mp hu).2⟩
  · rintro ⟨w0, w1, h0, h1, hk, h⟩
    exact ⟨[w0, w1], ins_hts.mpr ⟨wt2_of h0 h1 hk, h⟩⟩
theorem none_meetB {B : Blk} {a b : Pt} : cutAll unit2 (rows2 (hts B a) (hts B b)) = [] ↔ ¬ MeetB B a b := by rw [(cut2_ok rows2_len).none_iff, ins_meetB]
theorem inb_meet {B : Blk} {a b : Pt} (h : InB B a) : MeetB B a b := by
  obtain ⟨⟨h1, h2⟩, h3, h4⟩ := h
  exact ⟨1, 0, by decide, by decide, by decide, ⟨by omega, by omega⟩, by omega, by omega⟩
theorem inb_meet2 {B : Blk} {a b : Pt} (h : InB B b) : MeetB B a b := by
  obtain ⟨⟨h1, h2⟩, h3, h4⟩ := h
  exact ⟨0, 1, by decide, by decide, by decide, ⟨by omega, by omega⟩, by omega, by omega⟩
theorem meet_in {B : Blk} {a b c d : Pt} (h : Meet a b c d) (hc : InB B c) (hd : InB B d) : MeetB B a b := by
  obtain ⟨w0, w1, v0, v1, h0, h1, g0, g1, hk, hs, e1, e2⟩ := h
  obtain ⟨⟨c1, c2⟩, c3, c4⟩ := hc
  obtain ⟨⟨d1, d2⟩, d3, d4⟩ := hd
  refine ⟨w0, w1, h0, h1, hk, ?_⟩
  rw [e1, e2, hs]
  exact ⟨⟨comb_ge g0 g1 c1 d1, comb_le g0 g1 c2 d2⟩, comb_ge g0 g1 c3 d3, comb_le g0 g1 c4 d4⟩
theorem hits_meet {B : Blk} (hv : Vb B) {a b : Pt} (h : Hits B a b) : MeetB B a b := by
  obtain ⟨v1, v2⟩ := hv
  have k1 : InB B (B.left, B.low) := ⟨⟨Int.le_refl _, v1⟩, Int.le_refl _, v2⟩
  have k2 : InB B (B.right, B.low) := ⟨⟨v1, Int.le_refl _⟩, Int.le_refl _, v2⟩
  have k3 : InB B (B.right, B.high) := ⟨⟨v1, Int.le_refl _⟩, v2, Int.le_refl _⟩
  have k4 : InB B (B.left, B.high) := ⟨⟨Int.le_refl _, v1⟩, v2, Int.le_refl _⟩
  rcases h with h | h | h | h | h | h
  · exact inb_meet h
  · exact inb_meet2 h
  · exact meet_in (meet_iff.mpr h) k4 k1
  · exact meet_in (meet_iff.mpr h) k1 k2
  · exact meet_in (meet_iff.mpr h) k2 k3
  · exact meet_in (meet_iff.mpr h) k3 k4
/-- a point of a standing or lying edge -/
theorem edge_x {a b : Pt} {w0 w1 x y1 y2 : Int} (hw : Wt 2 [w0, w1]) (hk : 0 < w0 + w1) (hx : w0 * a.1 + w1 * b.1 = (w0 + w1) * x) (h1 : (w0 + w1) * mn y1 y2 ≤ w0 * a.2 + w1 * b.2) (h2 : w0 * a.2 + w1 * b.2 ≤ (w0 + w1) * mx y1 y2) : CutP a b (x, y1) (x, y2) := by
  refine meet_iff.mp (ins_meet.mp ⟨[w0, w1], ins_phts.mpr ⟨hw, ?_⟩⟩)
  refine ⟨?_, ?_, ?_, ?_, ?_⟩
  · unfold cross
    simp only
    rw [hx]
    grind
  · show mn ((w0 + w1) * x) ((w0 + w1) * x) ≤ w0 * a.1 + w1 * b.1
    have := (mn_le ((w0 + w1) * x) ((w0 + w1) * x)).1
    omega
  · show w0 * a.1 + w1 * b.1 ≤ mx ((w0 + w1) * x) ((w0 + w1) * x)
    have := (le_mx ((w0 + w1) * x) ((w0 + w1) * x)).1
    omega
  · show mn ((w0 + w1) * y1) ((w0 + w1) * y2) ≤ w0 * a.2 + w1 * b.2
    rw [mn_scale hk]
    exact h1
  · show w0 * a.2 + w1 * b.2 ≤ mx ((w0 + w1) * y1) ((w0 + w1) * y2)
    rw [mx_scale hk]
    exact h2
theorem edge_y {a b : Pt} {w0 w1 y x1 x2 : Int} (hw : Wt 2 [w0, w1]) (hk : 0 < w0 + w1) (hy : w0 * a.2 + w1 * b.2 = (w0 + w1) * y) (h1 : (w0 + w1) * mn x1 x2 ≤ w0 * a.1 + w1 * b.1) (h2 : w0 * a.1 + w1 * b.1 ≤ (w0 + w1) * mx x1 x2) : CutP a b (x1, y) (x2, y) := by
  refine meet_iff.mp (ins_meet.mp ⟨[w0, w1], ins_phts.mpr ⟨hw, ?_⟩⟩)
  refine ⟨?_, ?_, ?_, ?_, ?_⟩
  · unfold cross
    simp only
    rw [hy]
    grind
  · show mn ((w0 + w1) * x1) ((w0 + w1) * x2) ≤ w0 * a.1 + w1 * b.1
    rw [mn_scale hk]
    exact h1
  · show w0 * a.1 + w1 * b.1 ≤ mx ((w0 + w1) * x1) ((w0 + w1) * x2)
    rw [mx_scale hk]
    exact h2
  · show mn ((w0 + w1) * y) ((w0 + w1) * y) ≤ w0 * a.2 + w1 * b.2
    have := (mn_le ((w0 + w1) * y) ((w0 + w1) * y)).1
    omega
  · show w0 * a.2 + w1 * b.2 ≤ mx ((w0 + w1) * y) ((w0 + w1) * y)
    have := (le_mx ((w0 + w1) * y) ((w0 + w1) * y)).1
    omega
theorem mn_eq {i j : Int} (h : i ≤ j) : mn i j = i ∧ mn j i = i ∧ mx i j = j ∧ mx j i = j := by
  unfold mn mx
  refine ⟨?_, ?_, ?_, ?_⟩ <;> split <;> omega
theorem meet_hits {B : Blk} (hv : Vb B) {a b : Pt} (h : MeetB B a b) : Hits B a b := by
  obtain ⟨v1, v2⟩ := hv
  have C := cut2_ok (hs := rows2 (hts B a) (hts B b)) rows2_len
  have ne : cutAll unit2 (rows2 (hts B a) (hts B b)) ≠ [] := fun z => none_meetB.mp z h
  obtain ⟨p, hp⟩ := List.exists_mem_of_ne_nil _ ne
  have hS := C.mem p hp
  obtain ⟨w0, w1, rfl, h0, h1, hk⟩ := wt2 hS.1
  obtain ⟨_, ⟨i1, i2⟩, i3, i4⟩ := ins_hts.mp hS
  rcases C.tight _ hp with t | ⟨g, hg, z⟩
  · have t2 : [w0, w1] = [1, 0] ∨ [w0, w1] = [0, 1] := by simpa [unit2] using t
    rcases t2 with t | t
    · injection t with t1 t2
      injection t2 with t2 _
      subst t1 t2
      exact .inl ⟨⟨by omega, by omega⟩, by omega, by omega⟩
    · injection t with t1 t2
      injection t2 with t2 _
      subst t1 t2
      exact .inr (.inl ⟨⟨by omega, by omega⟩, by omega, by omega⟩)
  · obtain ⟨l1, l2, l3, l4⟩ := mn_eq v2
    obtain ⟨r1, r2, r3, r4⟩ := mn_eq v1
    simp only [rows2, hts, List.zipWith_cons_cons, List.zipWith_nil_left, List.mem_cons, List.not_mem_nil, or_false] at hg
    rcases hg with rfl | rfl | rfl | rfl
    · rw [dot2] at z
      refine .inr (.inr (.inl (edge_x hS.1 hk ?_ ?_ ?_)))
      · grind
      · rw [l2]
        exact i3
      · rw [l4]
        exact i4
    · rw [dot2] at z
      refine .inr (.inr (.inr (.inr (.inl (edge_x hS.1 hk ?_ ?_ ?_)))))
      · grind
      · rw [l1]
        exact i3
      · rw [l3]
        exact i4
    · rw [dot2] at z
      refine .inr (.inr (.inr (.inl (edge_y hS.1 hk ?_ ?_ ?_))))
      · grind
      · rw [r1]
        exact i1
      · rw [r3]
        exact i2
    · rw [dot2] at z
      refine .inr (.inr (.inr (.inr (.inr (edge_y hS.1 hk ?_ ?_ ?_)))))
      · grind
      · rw [r2]
        exact i1
      · rw [r4]
        exact i2
theorem hits_iff {B : Blk} (hv : Vb B) {a b : Pt} : Hits B a b ↔ MeetB B a b := ⟨hits_meet hv, meet_hits hv⟩
/-! ### no separation by the sides is enough -/
theorem helly {hs : List (List Int)} (hl : ∀ h ∈ hs, h.length = 2) (h1 : ∀ x y, [x, y] ∈ hs → ¬ (x < 0 ∧ y < 0)) (h2 : ∀ x y x' y', [x, y] ∈ hs → [x', y'] ∈ hs → x < 0 → 0 ≤ y → 0 ≤ x' → y' < 0 → 0 ≤ y * x' - x * y') : ∃ u, InS 2 hs u := by
  have two : ∀ h ∈ hs, ∃ x y, h = [x, y] := fun h hh => by
    have := hl h hh
    match h, this with
    | [x, y], _ => exact ⟨x, y, rfl⟩
  by_cases hx : ∃ h ∈ hs, 0 < -h.getD 0 0
  · obtain ⟨g, g1, g2, g3⟩ := least_ratio (f := fun h => h.getD 1 0) (h := fun h => -h.getD 0 0) hx
    obtain ⟨x, y, rfl⟩ := two g g1
    simp only [List.getD_cons_zero, List.getD_cons_succ] at g2 g3
    have y0 : 0 ≤ y := by
      have := h1 x y g1
      omega
    refine ⟨[y, -x], wt2_of y0 (by omega) (by omega), fun h hh => ?_⟩
    obtain ⟨u, v, rfl⟩ := two h hh
    rw [dot2]
    by_cases hu : u < 0
    · have := g3 _ hh (by simp only [List.getD_cons_zero]; omega)
      simp only [List.getD_cons_zero, List.getD_cons_succ] at this
      have e1 : y * -u = -(y * u) := by grind
      have e2 : v * -x = -x * v := by grind
      omega
    · by_cases hv : v < 0
      · have := h2 x y u v g1 hh (by omega) y0 (by omega) hv
        have e : -x * v = -(x * v) := by grind
        omega
      · have e1 := Int.mul_nonneg y0 (show 0 ≤ u by omega)
        have e2 := Int.mul_nonneg (show 0 ≤ -x by omega) (show 0 ≤ v by omega)
        omega
  · refine ⟨[1, 0], wt2_of (by decide) (by decide) (by decide), fun h hh => ?_⟩
    obtain ⟨u, v, rfl⟩ := two h hh
    rw [dot2]
    have : ¬ 0 < -u := fun q => hx ⟨_, hh, q⟩
    omega
/-- across first, then up: the corner cuts the block off -/
theorem off_xy {a b : Pt} {X Y s t : Int} (hs : s = 1 ∨ s = -1) (ht : t = 1 ∨ t = -1) (h1 : s * (a.1 - X) < 0) (h2 : 0 ≤ s * (b.1 - X)) (h3 : 0 ≤ t * (a.2 - Y)) (h4 : t * (b.2 - Y) < 0) (h5 : (s * (b.1 - X)) * (t * (a.2 - Y)) - (s * (a.1 - X)) * (t * (b.2 - Y)) < 0)
    {x y : Int} (hx : 0 ≤ s * (x - X)) (hy : 0 ≤ t * (y - Y)) : 0 < s * t * cross a b (x, y) := by
  have e : s * t * cross a b (x, y) = -((s * (b.1 - X)) * (t * (a.2 - Y)) - (s * (a.1 - X)) * (t * (b.2 - Y))) + (s * (b.1 - X) - s * (a.1 - X)) * (t * (y - Y)) + (t * (a.2 - Y) - t * (b.2 - Y)) * (s * (x - X)) := by
    unfold cross
    simp only
    grind
  rw [e]
  have k1 := Int.mul_nonneg (show 0 ≤ s * (b.1 - X) - s * (a.1 - X) by omega) hy
  have k2 := Int.mul_nonneg (show 0 ≤ t * (a.2 - Y) - t * (b.2 - Y) by omega) hx
  omega
theorem off_yx {a b : Pt} {X Y s t : Int} (hs : s = 1 ∨ s = -1) (ht : t = 1 ∨ t = -1) (h1 : t * (a.2 - Y) < 0) (h2 : 0 ≤ t * (b.2 - Y)) (h3 : 0 ≤ s * (a.1 - X)) (h4 : s * (b.1 - X) < 0) (h5 : (t * (b.2 - Y)) * (s * (a.1 - X)) - (t * (a.2 - Y)) * (s * (b.1 - X)) < 0)
    {x y : Int} (hx : 0 ≤ s * (x - X)) (hy : 0 ≤ t * (y - Y)) : s * t * cross a b (x, y) < 0 := by
  have e : s * t * cross a b (x, y) = ((t * (b.2 - Y)) * (s * (a.1 - X)) - (t * (a.2 - Y)) * (s * (b.1 - X))) - (s * (a.1 - X) - s * (b.1 - X)) * (t * (y - Y)) - (t * (b.2 - Y) - t * (a.2 - Y)) * (s * (x - X)) := by
    unfold cross
    simp only
    grind
  rw [e]
  have k1 := Int.mul_nonneg (show 0 ≤ s * (a.1 - X) - s * (b.1 - X) by omega) hy
  have k2 := Int.mul_nonneg (show 0 ≤ t * (b.2 - Y) - t * (a.2 - Y) by omega) hx
  omega
theorem bes_of {a b : Pt} {B : Blk} {k : Int} (hk : k = 1 ∨ k = -1) (h : ∀ x y, (x = B.left ∨ x = B.right) → (y = B.low ∨ y = B.high) → 0 < k * cross a b (x, y)) : Bes a b (corners B) := by
  have q1 := h B.left B.low (.inl rfl) (.inl rfl)
  have q2 := h B.right B.low (.inr rfl) (.inl rfl)
  have q3 := h B.right B.high (.inr rfl) (.inr rfl)
  have q4 := h B.left B.high (.inl rfl) (.inr rfl)
  rcases hk with rfl | rfl
  · refine .inl fun x hx => ?_
    simp only [corners, List.mem_cons, List.not_mem_nil, or_false] at hx
    rcases hx with rfl | rfl | rfl | rfl <;> omega
  · refine .inr fun x hx => ?_
    simp only [corners, List.mem_cons, List.not_mem_nil, or_false] at hx
    rcases hx with rfl | rfl | rfl | rfl <;> omega
theorem satB_meet {B : Blk} (hv : Vb B) {a b : Pt} (h : SatB B a b) : MeetB B a b := by
  obtain ⟨⟨x1, x2, y1, y2⟩, nb⟩ := h
  obtain ⟨v1, v2⟩ := hv
  have ma := le_mx a.1 b.1
  have mb := mn_le a.1 b.1
  have mc := le_mx a.2 b.2
  have md := mn_le a.2 b.2
  have xo := mx_or a.1 b.1
  have xn := mn_or a.1 b.1
  have yo := mx_or a.2 b.2
  have yn := mn_or a.2 b.2
  have X1 : B.left ≤ mx a.1 b.1 := x1
  have X2 : mn a.1 b.1 ≤ B.right := x2
  have Y1 : B.low ≤ mx a.2 b.2 := y1
  have Y2 : mn a.2 b.2 ≤ B.high := y2
  refine ins_meetB.mp (helly rows2_len ?_ ?_)
  · intro x y hm
    simp only [rows2, hts, List.zipWith_cons_cons, List.zipWith_nil_left, List.mem_cons, List.not_mem_nil, or_false, List.cons.injEq, and_true] at hm
    rcases hm with ⟨rfl, rfl⟩ | ⟨rfl, rfl⟩ | ⟨rfl, rfl⟩ | ⟨rfl, rfl⟩ <;> omega
  · have XY : ∀ {X Y s t : Int}, (s = 1 ∧ X = B.left) ∨ (s = -1 ∧ X = B.right) → (t = 1 ∧ Y = B.low) ∨ (t = -1 ∧ Y = B.high) → s * (a.1 - X) < 0 → 0 ≤ s * (b.1 - X) → 0 ≤ t * (a.2 - Y) → t * (b.2 - Y) < 0 → 0 ≤ (s * (b.1 - X)) * (t * (a.2 - Y)) - (s * (a.1 - X)) * (t * (b.2 - Y)) := fun {X Y s t} hs ht h1 h2 h3 h4 => by
      apply Decidable.byContradiction
      intro hn
      refine nb (bes_of (k := s * t) ?_ fun x y hx hy => off_xy (X := X) (Y := Y) (by omega) (by omega) h1 h2 h3 h4 (by omega) ?_ ?_)
      · rcases hs with ⟨rfl, _⟩ | ⟨rfl, _⟩ <;> rcases ht with ⟨rfl, _⟩ | ⟨rfl, _⟩ <;> decide
      · rcases hs with ⟨rfl, rfl⟩ | ⟨rfl, rfl⟩ <;> rcases hx with rfl | rfl <;> omega
      · rcases ht with ⟨rfl, rfl⟩ | ⟨rfl, rfl⟩ <;> rcases hy with rfl | rfl <;> omega
    have YX : ∀ {X Y s t : Int}, (s = 1 ∧ X = B.left) ∨ (s = -1 ∧ X = B.right) → (t = 1 ∧ Y = B.low) ∨ (t = -1 ∧ Y = B.high) → t * (a.2 - Y) < 0 → 0 ≤ t * (b.2 - Y) → 0 ≤ s * (a.1 - X) → s * (b.1 - X) < 0 → 0 ≤ (t * (b.2 - Y)) * (s * (a.1 - X)) - (t * (a.2 - Y)) * (s * (b.1 - X)) := fun {X Y s t} hs ht h1 h2 h3 h4 => by
      apply Decidable.byContradiction
      intro hn
      refine nb (bes_of (k := -(s * t)) ?_ fun x y hx hy => ?_)
      · rcases hs with ⟨rfl, _⟩ | ⟨rfl, _⟩ <;> rcases ht with ⟨rfl, _⟩ | ⟨rfl, _⟩ <;> decide
      · have := off_yx (X := X) (Y := Y) (x := x) (y := y) (s := s) (t := t) (a := a) (b := b) (by omega) (by omega) h1 h2 h3 h4 (by omega) (by rcases hs with ⟨rfl, rfl⟩ | ⟨rfl, rfl⟩ <;> rcases hx with rfl | rfl <;> omega) (by rcases ht with ⟨rfl, rfl⟩ | ⟨rfl, rfl⟩ <;> rcases hy with rfl | rfl <;> omega)
        rw [Int.neg_mul]
        omega
    have SS : ∀ {p q l r : Int}, l ≤ r → p - l < 0 → 0 ≤ q - l → 0 ≤ r - p → r - q < 0 → 0 ≤ (q - l) * (r - p) - (p - l) * (r - q) := fun {p q l r} hlr h1 h2 h3 h4 => by
      have e1 := Int.mul_nonneg (show 0 ≤ r - l by omega) (show 0 ≤ q - p by omega)
      have e2 : (q - l) * (r - p) - (p - l) * (r - q) = (r - l) * (q - p) := by grind
      omega
    have SS2 : ∀ {p q l r : Int}, l ≤ r → r - p < 0 → 0 ≤ r - q → 0 ≤ p - l → q - l < 0 → 0 ≤ (r - q) * (p - l) - (r - p) * (q - l) := fun {p q l r} hlr h1 h2 h3 h4 => by
      have e1 := Int.mul_nonneg (show 0 ≤ r - l by omega) (show 0 ≤ p - q by omega)
      have e2 : (r - q) * (p - l) - (r - p) * (q - l) = (r - l) * (p - q) := by grind
      omega
    have one : ∀ z : Int, 1 * z = z := Int.one_mul
    have neg : ∀ z w : Int, -1 * (z - w) = w - z := fun z w => by omega
    intro x y x' y' hm hm' p1 p2 p3 p4
    simp only [rows2, hts, List.zipWith_cons_cons, List.zipWith_nil_left, List.mem_cons, List.not_mem_nil, or_false, List.cons.injEq, and_true] at hm hm'
    rcases hm with ⟨rfl, rfl⟩ | ⟨rfl, rfl⟩ | ⟨rfl, rfl⟩ | ⟨rfl, rfl⟩ <;> rcases hm' with ⟨rfl, rfl⟩ | ⟨rfl, rfl⟩ | ⟨rfl, rfl⟩ | ⟨rfl, rfl⟩
    · omega
    · exact SS v1 p1 p2 p3 p4
    · have := XY (s := 1) (t := 1) (.inl ⟨rfl, rfl⟩) (.inl ⟨rfl, rfl⟩); simp only [one] at this; exact this p1 p2 p3 p4
    · have := XY (s := 1) (t := -1) (.inl ⟨rfl, rfl⟩) (.inr ⟨rfl, rfl⟩); simp only [one, neg] at this; exact this p1 p2 p3 p4
    · exact SS2 v1 p1 p2 p3 p4
    · omega
    · have := XY (s := -1) (t := 1) (.inr ⟨rfl, rfl⟩) (.inl ⟨rfl, rfl⟩); simp only [one, neg] at this; exact this p1 p2 p3 p4
    · have := XY (s := -1) (t := -1) (.inr ⟨rfl, rfl⟩) (.inr ⟨rfl, rfl⟩); simp only [neg] at this; exact this p1 p2 p3 p4
    · have := YX (s := 1) (t := 1) (.inl ⟨rfl, rfl⟩) (.inl ⟨rfl, rfl⟩); simp only [one] at this; exact this p1 p2 p3 p4
    · have := YX (s := -1) (t := 1) (.inr ⟨rfl, rfl⟩) (.inl ⟨rfl, rfl⟩); simp only [one, neg] at this; exact this p1 p2 p3 p4
    · omega
    · exact SS v2 p1 p2 p3 p4
    · have := YX (s := 1) (t := -1) (.inl ⟨rfl, rfl⟩) (.inr ⟨rfl, rfl⟩); simp only [one, neg] at this; exact this p1 p2 p3 p4
    · have := YX (s := -1) (t := -1) (.inr ⟨rfl, rfl⟩) (.inr ⟨rfl, rfl⟩); simp only [neg] at this; exact this p1 p2 p3 p4
    · exact SS2 v2 p1 p2 p3 p4
    · omega
theorem meet_satB {B : Blk} {a b : Pt} (h : MeetB B a b) : SatB B a b := by
  obtain ⟨w0, w1, h0, h1, hk, ⟨i1, i2⟩, i3, i4⟩ := h
  have a1 := comb_ge h0 h1 (mn_le a.1 b.1).1 (mn_le a.1 b.1).2
  have a2 := comb_le h0 h1 (le_mx a.1 b.1).1 (le_mx a.1 b.1).2
  have a3 := comb_ge h0 h1 (mn_le a.2 b.2).1 (mn_le a.2 b.2).2
  have a4 := comb_le h0 h1 (le_mx a.2 b.2).1 (le_mx a.2 b.2).2
  have id : ∀ x y : Int, (w0 + w1) * cross a b (x, y) = (b.1 - a.1) * ((w0 + w1) * y - (w0 * a.2 + w1 * b.2)) - (b.2 - a.2) * ((w0 + w1) * x - (w0 * a.1 + w1 * b.1)) := fun x y => by
    unfold cross
    simp only
    grind
  generalize hX : w0 * a.1 + w1 * b.1 = X at *
  generalize hY : w0 * a.2 + w1 * b.2 = Y at *
  generalize hkk : w0 + w1 = k at *
  refine ⟨⟨?_, ?_, ?_, ?_⟩, ?_⟩
  · exact Int.le_of_mul_le_mul_left (show k * B.left ≤ k * mx a.1 b.1 by omega) hk
  · exact Int.le_of_mul_le_mul_left (show k * mn a.1 b.1 ≤ k * B.right by omega) hk
  · exact Int.le_of_mul_le_mul_left (show k * B.low ≤ k * mx a.2 b.2 by omega) hk
  · exact Int.le_of_mul_le_mul_left (show k * mn a.2 b.2 ≤ k * B.high by omega) hk
  · have mem : ∀ x y, (x = B.left ∨ x = B.right) → (y = B.low ∨ y = B.high) → (x, y) ∈ corners B := fun x y hx hy => by
      simp only [corners, List.mem_cons, List.not_mem_nil, or_false, Prod.mk.injEq]
      rcases hx with rfl | rfl <;> rcases hy with rfl | rfl <;> simp
    -- the corner that is least, and the one that is greatest
    have least : ∃ p ∈ corners B, cross a b p ≤ 0 := by
      have hy : ∃ y, (y = B.low ∨ y = B.high) ∧ (b.1 - a.1) * (k * y - Y) ≤ 0 := by
        rcases Int.le_total 0 (b.1 - a.1) with q | q
        · refine ⟨B.low, .inl rfl, ?_⟩
          have := Int.mul_nonneg q (show 0 ≤ Y - k * B.low by omega)
          have e : (b.1 - a.1) * (Y - k * B.low) = -((b.1 - a.1) * (k * B.low - Y)) := by grind
          omega
        · refine ⟨B.high, .inr rfl, ?_⟩
          have := Int.mul_nonneg (show 0 ≤ -(b.1 - a.1) by omega) (show 0 ≤ k * B.high - Y by omega)
          rw [Int.neg_mul] at this
          omega
      have hx : ∃ x, (x = B.left ∨ x = B.right) ∧ 0 ≤ (b.2 - a.2) * (k * x - X) := by
        rcases Int.le_total 0 (b.2 - a.2) with q | q
        · exact ⟨B.right, .inr rfl, Int.mul_nonneg q (by omega)⟩
        · exact ⟨B.left, .inl rfl, Int.mul_nonneg_of_nonpos_of_nonpos q (by omega)⟩
      obtain ⟨y, y1, y2⟩ := hy
      obtain ⟨x, x1, x2⟩ := hx
      refine ⟨_, mem x y x1 y1, Decidable.byContradiction fun hn => ?_⟩
      have := Int.mul_pos hk (show 0 < cross a b (x, y) by omega)
      have := id x y
      omega
    have great : ∃ p ∈ corners B, 0 ≤ cross a b p := by
      have hy : ∃ y, (y = B.low ∨ y = B.high) ∧ 0 ≤ (b.1 - a.1) * (k * y - Y) := by
        rcases Int.le_total 0 (b.1 - a.1) with q | q
        · exact ⟨B.high, .inr rfl, Int.mul_nonneg q (by omega)⟩
        · exact ⟨B.low, .inl rfl, Int.mul_nonneg_of_nonpos_of_nonpos q (by omega)⟩
      have hx : ∃ x, (x = B.left ∨ x = B.right) ∧ (b.2 - a.2) * (k * x - X) ≤ 0 := by
        rcases Int.le_total 0 (b.2 - a.2) with q | q
        · refine ⟨B.left, .inl rfl, ?_⟩
          have := Int.mul_nonneg q (show 0 ≤ X - k * B.left by omega)
          have e : (b.2 - a.2) * (X - k * B.left) = -((b.2 - a.2) * (k * B.left - X)) := by grind
          omega
        · refine ⟨B.right, .inr rfl, ?_⟩
          have := Int.mul_nonneg (show 0 ≤ -(b.2 - a.2) by omega) (show 0 ≤ k * B.right - X by omega)
          rw [Int.neg_mul] at this
          omega
      obtain ⟨y, y1, y2⟩ := hy
      obtain ⟨x, x1, x2⟩ := hx
      refine ⟨_, mem x y x1 y1, Decidable.byContradiction fun hn => ?_⟩
      have := Int.mul_neg_of_pos_of_neg hk (show cross a b (x, y) < 0 by omega)
      have := id x y
      omega
    rintro (q | q)
    · obtain ⟨p, p1, p2⟩ := least
      have := q p p1
      omega
    · obtain ⟨p, p1, p2⟩ := great
      have := q p p1
      omega
theorem satB_iff {B : Blk} (hv : Vb B) {a b : Pt} : SatB B a b ↔ Hits B a b := ⟨fun h => meet_hits hv (satB_meet hv h), fun h => meet_satB (hits_meet hv h)⟩
theorem none_hits {B : Blk} (hv : Vb B) {a b : Pt} : cutAll unit2 (rows2 (hts B a) (hts B b)) = [] ↔ ¬ Hits B a b := by rw [none_meetB, hits_iff hv]
theorem MeetB.flip {B : Blk} {a b : Pt} (h : MeetB B a b) : MeetB B b a := by
  obtain ⟨w0, w1, h0, h1, hk, hi⟩ := h
  refine ⟨w1, w0, h1, h0, by omega, ?_⟩
  rw [Int.add_comm w1 w0, Int.add_comm (w1 * b.1), Int.add_comm (w1 * b.2)]
  exact hi
theorem hits_flip {B : Blk} (hv : Vb B) {a b : Pt} : Hits B b a ↔ Hits B a b := by
  rw [hits_iff hv, hits_iff hv]
  exact ⟨MeetB.flip, MeetB.flip⟩
end Hs
namespace Hs
open PySem PySem.Spec PyProof.Rows L2 Evl
/-! ### over zip of two tuples -/
theorem walk_zipT {K : PySem.W.Frag} {a b : Addr} {xs ys : List V} {n : Nat} (hn : n = min xs.length ys.length) : Walk (RZ.ItzT K a b) n (fun H => SqT K H a xs ∧ SqT K H b ys) (YPair (fun i => xs[i]?) (fun i => ys[i]?)) := by
  subst hn
  refine ⟨fun i _ hi q => ?_, fun _ q => ⟨xs, ys, q.1, q.2, by omega⟩, fun i H v H' _ q y => ?_⟩
  · have h1 : i < xs.length := by omega
    have h2 : i < ys.length := by omega
    exact ⟨xs, ys, xs[i], ys[i], q.1, q.2, by simp [h1], by simp [h2]⟩
  · obtain ⟨T, x, z, h1, h2, h3, h4, h5⟩ := y
    exact ⟨T, x, z, h1, h2, h3, h4 xs q.1, h5 ys q.2⟩
section
variable {K : PySem.W.Frag} {σ : L2.St} {H : Hp} {te : TE}
theorem el_zipT {a b : Addr} {xs ys : List V} {ta tb : TE} {i j : Nat} {vs : List Nat} (v : Nat → V) (ha : Ev ta σ H (.ref a)) (hb : Ev tb σ H (.ref b)) (hx : SqT K H a xs) (hy : SqT K H b ys) (hl : xs.length = ys.length) (hz : xs.length ≤ 40000) (hw : ∀ x y, wipe (((wipe σ vs).set i (some x)).set j (some y)) vs = wipe σ vs)
    (he : ∀ (k : Nat) (x y : V) H1, Ex H H1 → xs[k]? = some x → ys[k]? = some y → Ev te (((wipe σ vs).set i (some x)).set j (some y)) H1 (v k)) :
    EvL (tLc (RZ.iZipA K (tCons ta (tCons tb tNil))) (gTup K 2 (gCons (gName i) (gCons (gName j) gNil))) tYes te vs) σ H (given xs.length (fun _ => true) v) := fun H0 e Q q =>
  ha H0 e _ fun H1 e1 => hb H1 (e.trans e1) _ fun H2 e2 => by
    have e02 := (e.trans e1).trans e2
    refine ⟨a, b, xs, ys, rfl, .inr ⟨ex_t e02 hx, ex_t e02 hy, fun Dl hD => ?_⟩⟩
    refine lc_it (walk_zipT (xs := xs) (ys := ys) (n := xs.length) (by omega)) (Cw H2 (fun _ => true) v Dl) ⟨hD, Ex.new hD, upd_same⟩ (fun i H' _ p => ⟨ex_t (e02.trans p.2.1) hx, ex_t (e02.trans p.2.1) hy⟩) (fun k x H' H'' hk p y => ?_) (fun H' p => q Dl H' (fresh_back (e1.trans e2) p.1) ((e1.trans e2).trans p.2.1) p.2.2)
    obtain ⟨T, x', y', rfl, hT, rfl, f1, f2⟩ := y
    refine ⟨T, [x', y'], rfl, st_of upd_same, rfl, _, _, rfl, _, _, rfl, rfl, hw x' y', ?_⟩
    exact cw_turn ⟨p.1, p.2.1.trans (Ex.new hT), (Ex.new hT) _ _ p.2.2⟩ (by omega) (fun H1 _ Q q => q H1 (Ex.refl H1)) fun _ => he k x' y' H2 e02 f1 f2
theorem ev_sum {ns : List Int} (h : EvL te σ H (ns.map V.int)) : Ev (tCB (rSum K) (tCons te tNil)) σ H (.int ns.sum) := fun H1 e Q q =>
  h H1 e _ fun p H2 _ e2 h2 => ⟨p, ns, rfl, sq_of h2, q H2 e2⟩
end
theorem given_ints {n : Nat} {f : Nat → Int} {l : List Int} (hl : l.length = n) (h : ∀ (k : Nat) (x : Int), l[k]? = some x → x = f k) : given n (fun _ => true) (fun k => V.int (f k)) = l.map V.int := by
  subst hl
  unfold given
  rw [List.filter_eq_self.mpr (fun _ _ => rfl)]
  apply List.ext_getElem
  · simp
  · intro i h1 h2
    simp only [List.length_map, List.length_range] at h1
    simp only [List.getElem_map, List.getElem_range]
    rw [h i _ (List.getElem?_eq_getElem h1)]
theorem at_int {l : List Int} {k : Nat} {v : V} (h : (l.map V.int)[k]? = some v) : ∃ x, l[k]? = some x ∧ v = .int x := by
  rw [List.getElem?_map] at h
  obtain ⟨x, h1, h2⟩ := Option.map_eq_some_iff.mp h
  exact ⟨x, h1, h2.symm⟩
/-! ### weights, by their object -/
def BdL (n : Nat) (l : List Int) : Prop := ∀ x ∈ l, Bd n x
def Ws (K : PySem.W.Frag) (H : Hp) (p : Addr) (w : List Int) : Prop := SqT K H p (w.map V.int)
theorem Ws.ext {K : PySem.W.Frag} {H H' : Hp} {p : Addr} {w : List Int} (h : Ws K H p w) (e : Ex H H') : Ws K H' p w := ex_t e h
def spHeight (K : PySem.W.Frag) (n m : Nat) : Sp := fun vs H Q _ => ∃ p q w h, vs = [.ref p, .ref q] ∧ Ws K H p w ∧ Ws K H q h ∧ w.length = h.length ∧ w.length ≤ 3 ∧ BdL n w ∧ BdL m h ∧ RetV (.int (dot w h)) H Q
theorem getD_at {l : List Int} {k : Nat} {x : Int} (h : l[k]? = some x) : l.getD k 0 = x := by
  rw [List.getD_eq_getElem?_getD, h]
  rfl
theorem zip_at {f : Int → Int → Int} {p q : List Int} {k : Nat} {x : Int} (h : (List.zipWith f p q)[k]? = some x) : x = f (p.getD k 0) (q.getD k 0) := by
  rw [List.getElem?_zipWith] at h
  cases h1 : p[k]? with
  | none => rw [h1] at h; cases h
  | some a =>
    cases h2 : q[k]? with
    | none => rw [h1, h2] at h; cases h
    | some b =>
      rw [h1, h2] at h
      rw [getD_at h1, getD_at h2]
      exact (Option.some.inj h).symm
section
variable {P : Program} {w : World} {K : PySem.W.Frag} {mg : Str → Option Value} {base : Heap} {f : Addr} {fd : FuncData} {n m : Nat}
abbrev sHeight : Stmt := top 8
theorem scHeight : FnScope ["weights", "heights", "weight", "high"] ["weights", "heights"] (defScope sHeight) := ⟨rfl, rfl, rfl, by decide +kernel, rfl, by decide +kernel, by decide +kernel⟩
theorem ok_height (F : FnP K "height" sHeight f fd) (g_sum : mg "sum" = none) (g_zip : mg "zip" = none) (hn : n + m ≤ 90000) : FnOk P w K mg base CX0 1 f fd ["weights", "heights"] (spHeight K n m) := by
  have nd := scHeight.nd
  refine F.ok scHeight (fun vs H Q E h => ?_) (fun cdv A outer s H vs Q E hr h => ⟨_, PSs.nox (pss_one (ps_ret (pe_callB (r := rSum K) (cr_sum rfl) (by rfl) g_sum (by decide +kernel) (pa_cons (pe_lc (own := [("weight", 2), ("high", 3)]) (g := gTup K 2 (gCons (gName 2) (gCons (gName 3) gNil))) rfl nd (RZ.pi_zipA (by rfl) g_zip (pa_cons (pv 0) (pa_cons (pv 1) pa_nil))) (blkOk_by (N := ["weights", "heights", "weight", "high"]) (sc := defScope (Hs.top 8)) (by decide +kernel)) (fun _ _ _ _ _ => (pg_tup rfl (pgs_cons (pg_name (i := 2) nd rfl (Or.inl rfl)) (pgs_cons (pg_name (i := 3) nd rfl (Or.inl rfl)) pgs_nil)))) (fun _ _ _ _ _ => pts_nil) (fun _ _ _ _ _ => (pe_op op_mulW (pv 2) (pv 3)))) pa_nil)))), ?_⟩)
  · obtain ⟨p, q, w, h, rfl, _⟩ := h
    rfl
  · obtain ⟨p, q, w, h, rfl, hw, hh, hl, hz, bw, bh, k⟩ := h
    refine s_ret (ev_sum ?_) fun H1 e1 => k H1 e1
    rw [← given_ints (n := w.length) (f := fun k => w.getD k 0 * h.getD k 0) (by rw [List.length_zipWith]; omega) (fun k x hx => zip_at hx)]
    have e0 : w.length = (w.map V.int).length := (List.length_map ..).symm
    rw [e0]
    refine el_zipT _ (ev_var rfl) (ev_var rfl) hw hh (by simp [hl]) (by simp; omega) (fun _ _ => rfl) (fun k x y H1 e1 hx hy => ?_)
    obtain ⟨i, hi, rfl⟩ := at_int hx
    obtain ⟨j, hj, rfl⟩ := at_int hy
    rw [getD_at hi, getD_at hj]
    exact ev_op (ev_var rfl) (ev_var rfl) (rv_I ((bw i (List.mem_of_getElem? hi)).cmul (bh j (List.mem_of_getElem? hj)) hn))
end
end Hs
namespace Hs
open PySem PySem.Spec PyProof.Rows L2 Evl
theorem rc_abs {H : Hp} {i : Int} : RC (fun xs H Q => ∃ i : Int, xs = [.int i] ∧ Q (.int (if i < 0 then -i else i)) H) [.int i] H (.int (i.natAbs : Int)) := fun H1 _ Q q => ⟨i, rfl, by
  have e : (if i < 0 then -i else i) = (i.natAbs : Int) := by split <;> omega
  rw [e]
  exact q H1 (Ex.refl H1)⟩
theorem s_par {σ : L2.St} {H : Hp} {D : Ends} {i j : Nat} {ta : TA} {v u : V} (h : EvA ta σ H [v, u]) (k : ∀ H1, Ex H H1 → D.nx ((σ.set i (some v)).set j (some u)) H1) : tPar i j ta D σ H := h H (Ex.refl H) _ fun H1 e => ⟨v, u, rfl, k H1 e⟩
theorem q_par {σ : L2.St} {H : Hp} {D : Ends} {i j : Nat} {ta : TA} {v u : V} {tz : TS} (h : EvA ta σ H [v, u]) (k : ∀ H1, Ex H H1 → tz D ((σ.set i (some v)).set j (some u)) H1) : tSeq (tPar i j ta) tz D σ H := s_par (D := { D with nx := tz D }) h k
theorem nat_mod {p q : Nat} : (p : Int).fmod (q : Int) = ((p % q : Nat) : Int) := by
  rw [Int.fmod_eq_emod_of_nonneg _ (by omega)]
  exact (Int.natCast_emod p q).symm
def spGcd : Sp := fun vs H Q _ => ∃ a b : Int, vs = [.int a, .int b] ∧ ∀ H', Ex H H' → Q (.int (Int.gcd a b : Int)) H'
section
variable {P : Program} {w : World} {K : PySem.W.Frag} {mg : Str → Option Value} {base : Heap} {f : Addr} {fd : FuncData}
abbrev sCommon : Stmt := top 4
theorem scCommon : FnScope ["one", "other"] ["one", "other"] (defScope sCommon) := ⟨rfl, rfl, rfl, by decide +kernel, rfl, by decide +kernel, by decide +kernel⟩
theorem ok_common (F : FnP K "common_part" sCommon f fd) (g_abs : mg "abs" = none) : FnOk P w K mg base CX0 1 f fd ["one", "other"] spGcd := by
  have nd := scCommon.nd
  refine F.ok scCommon (fun vs H Q E h => ?_) (fun cdv A outer s H vs Q E hr h => ⟨_, PSs.nox (pss_cons (ps_set (i := 0) nd rfl (.inl rfl) (pe_callB call_abs (by rfl) g_abs (by decide +kernel) (pa_cons (pv 0) pa_nil)))
  (pss_cons (ps_set (i := 1) nd rfl (.inl rfl) (pe_callB call_abs (by rfl) g_abs (by decide +kernel) (pa_cons (pv 1) pa_nil)))
  (pss_cons (ps_while PassesOwn.never (pt_cmpR op_ne (pv 1) pe_int (nomark _)) (pss_one (ps_par (i := 0) (j := 1) (by rfl) nd rfl rfl (by decide) rfl rfl (pa_cons (pv 1) (pa_cons (pe_op op_modN (pv 0) (pv 1)) pa_nil)) (by rfl))))
  (pss_one (ps_ret (pv 0)))))), ?_⟩)
  · obtain ⟨a, b, rfl, _⟩ := h
    rfl
  · obtain ⟨a, b, rfl, k⟩ := h
    refine q_asg (ev_cb (ea_cons (ev_var rfl) ea_nil) rc_abs) fun H1 e1 => ?_
    refine q_asg (ev_cb (ea_cons (ev_var rfl) ea_nil) rc_abs) fun H2 e2 => ?_
    refine q_while (fun m σ' H' => Ex H H' ∧ ∃ p : Nat, σ' = [some (.int (p : Int)), some (.int (m : Int))] ∧ Nat.gcd p m = Int.gcd a b) b.natAbs ⟨e1.trans e2, a.natAbs, rfl, rfl⟩ ?_
    rintro m σ' H' ⟨e, p, rfl, hg⟩
    refine ⟨_, et_test (ev_op (ev_var rfl) ev_c (rv_ne rfl)), fun ht H3 e3 => ?_, fun ht H3 e3 => ?_⟩
    · have hm : m ≠ 0 := fun z => by
        subst z
        simp at ht
      refine ⟨fun σ2 H2 => ∃ m', m' < m ∧ Ex H H2 ∧ ∃ p : Nat, σ2 = [some (.int (p : Int)), some (.int (m' : Int))] ∧ Nat.gcd p m' = Int.gcd a b, fun σ2 H2 h => h, ?_⟩
      refine s_par (ea_cons (ev_var rfl) (ea_cons (ev_op (ev_var rfl) (ev_var rfl) (rv_I (show (m : Int) ≠ 0 by omega))) ea_nil)) fun H4 e4 => ?_
      refine ⟨p % m, Nat.mod_lt _ (by omega), (e.trans e3).trans e4, m, ?_, ?_⟩
      · rw [nat_mod]
        rfl
      · rw [← hg, Nat.gcd_comm m, ← Nat.gcd_rec, Nat.gcd_comm]
    · have hm : m = 0 := Decidable.byContradiction fun hm => by
        have : (!decide (V.int (m : Int) = V.int 0)) = true := by
          rw [decide_eq_false (fun z => by injection z with z; omega)] <;> rfl
        rw [this] at ht
        exact Bool.noConfusion ht
      subst hm
      rw [Nat.gcd_zero_right] at hg
      refine s_ret (ev_var rfl) fun H4 e4 => ?_
      rw [hg]
      exact k H4 ((e.trans e3).trans e4)
/-- the fraction, where the bottom is above 0 -/
def spFracP : Sp := fun vs H Q _ => ∃ a b : Int, vs = [.int a, .int b] ∧ 0 < b ∧ Bd 13000 a ∧ Bd 13000 b ∧ RetU (prV (low a b)) H Q
abbrev sFrac : Stmt := top 5
theorem scFrac : FnScope ["top", "bottom", "part"] ["top", "bottom"] (defScope sFrac) := ⟨rfl, rfl, rfl, by decide +kernel, rfl, by decide +kernel, by decide +kernel⟩
theorem sg_lt {a b : Int} (h : b ≠ 0) {n : Nat} (hb : b.natAbs < 2 ^ n) : (sg a b).natAbs < 2 ^ n := by
  rw [sg_abs]
  exact Nat.lt_of_le_of_lt (Nat.le_of_dvd (by omega) (Int.natCast_dvd_natCast.mp (by rw [Int.dvd_natAbs]; exact Int.gcd_dvd_right ..))) hb
theorem ok_fracP {dvs : List V} (F : FunD K "fraction" "fraction" (defArgs sFrac) (defBody sFrac) (defScope sFrac) dvs [] f fd) (O_common_part : Own P w K mg base 1 "common_part" ["one", "other"] spGcd) : FnOk P w K mg base CX0 2 f fd ["top", "bottom"] spFracP := by
  have nd := scFrac.nd
  refine F.ok scFrac (fun vs H Q E h => ?_) (fun cdv A outer s H vs Q E hr h => ⟨_, PSs.nox (pss_cons (ps_if (pt_cmpR op_eq (pv 1) pe_int (nomark _)) (pss_one ps_never) pss_nil)
  (pss_cons (ps_set (i := 2) nd rfl (.inl rfl) (Hs.pe_own O_common_part hr (by first | decide | omega) (by rfl) (pa_cons (pv 0) (pa_cons (pv 1) pa_nil))))
  (pss_cons (ps_if (pt_cmpR op_lt (pv 1) pe_int (nomark _)) (pss_one (ps_set (i := 2) nd rfl (.inl rfl) (pe_un un_neg (pv 2)))) pss_nil)
  (pss_one (ps_ret (pe_tup (pa_cons (pe_op Hs.op_fdivG (pv 0) (pv 2)) (pa_cons (pe_op Hs.op_fdivG (pv 1) (pv 2)) pa_nil)))))))), ?_⟩)
  · obtain ⟨a, b, rfl, _⟩ := h
    rfl
  · obtain ⟨a, b, rfl, hb, ha9, hb9, k⟩ := h
    refine q_when (b := false) (et_is (et_test (ev_op (ev_var rfl) ev_c (rv_eq rfl))) (decide_eq_false (fun z => by injection z with z; omega))) (fun ht => Bool.noConfusion ht) (fun _ H0 e0 => ?_)
    refine q_asg (ev_call (ea_cons (ev_var rfl) (ea_cons (ev_var rfl) ea_nil)) fun H1 e1 Q' q E' => ⟨a, b, rfl, q⟩) fun H1 e1 => ?_
    refine q_when (b := false) (et_is (et_test (ev_op (ev_var rfl) ev_c rv_I0)) (decide_eq_false (by omega))) (fun ht => Bool.noConfusion ht) (fun _ H2 e2 => ?_)
    have e : (Int.gcd a b : Int) = sg a b := (if_neg (by omega)).symm
    rw [e]
    have hs := sg_ne (a := a) (b := b) (by omega)
    have e02 := (e0.trans e1).trans e2
    exact s_retU (eu_tup (ea_cons (ev_op (ev_var rfl) (ev_var rfl) (rv_I (divX hs ha9 (by decide) (by decide)))) (ea_cons (ev_op (ev_var rfl) (ev_var rfl) (rv_I (divX hs hb9 (by decide) (by decide)))) ea_nil)) (by simp)) fun p H3 hp e3 h3 => k p H3 (fresh_back e02 hp) (e02.trans e3) h3
def cmp3 (a b : Int) : Int := if a < b then -1 else if b < a then 1 else 0
def spOrd (K : PySem.W.Frag) (n : Nat) : Sp := fun vs H Q _ => ∃ (p q : Addr) (x y : Pt), vs = [.ref p, .ref q] ∧ Pl K n H p x ∧ Pl K n H q y ∧ RetV (.int (cmp3 (x.1 * y.2) (y.1 * x.2))) H Q
abbrev sOrder : Stmt := top 6
theorem scOrder : FnScope ["one", "other", "left", "right"] ["one", "other"] (defScope sOrder) := ⟨rfl, rfl, rfl, by decide +kernel, rfl, by decide +kernel, by decide +kernel⟩
theorem ok_order {n : Nat} (F : FnP K "order" sOrder f fd) (hn : n ≤ 40000) : FnOk P w K mg base CX0 1 f fd ["one", "other"] (spOrd K n) := by
  have nd := scOrder.nd
  refine F.ok scOrder (fun vs H Q E h => ?_) (fun cdv A outer s H vs Q E hr h => ⟨_, PSs.nox (pss_cons (ps_set (i := 2) nd rfl (.inl rfl) (pe_op op_mulW (pe_ix (r := rIxT K) ix_tup (pv 0) pe_int (fun _ _ => rfl)) (pe_ix (r := rIxT K) ix_tup (pv 1) pe_int (fun _ _ => rfl))))
  (pss_cons (ps_set (i := 3) nd rfl (.inl rfl) (pe_op op_mulW (pe_ix (r := rIxT K) ix_tup (pv 1) pe_int (fun _ _ => rfl)) (pe_ix (r := rIxT K) ix_tup (pv 0) pe_int (fun _ _ => rfl))))
  (pss_cons (ps_if (pt_cmpR op_lt (pv 2) (pv 3) (nomark _)) (pss_one (ps_ret (pe_un un_neg pe_int))) pss_nil)
  (pss_cons (ps_if (pt_cmpR op_gt (pv 2) (pv 3) (nomark _)) (pss_one (ps_ret pe_int)) pss_nil)
  (pss_one (ps_ret pe_int)))))), ?_⟩)
  · obtain ⟨p, q, x, y, rfl, _⟩ := h
    rfl
  · obtain ⟨p, q, x, y, rfl, hx, hy, k⟩ := h
    refine q_asg (ev_op (ev_x1 rfl hx) (ev_x2 rfl hy) (rv_I (hx.2.1.cmul hy.2.2 (by omega)))) fun H1 e1 => ?_
    refine q_asg (ev_op (ev_x1 rfl (hy.ext e1)) (ev_x2 rfl (hx.ext e1)) (rv_I (hy.2.1.cmul hx.2.2 (by omega)))) fun H2 e2 => ?_
    refine q_when (et_test (ev_op (ev_var rfl) (ev_var rfl) rv_I0)) (fun ht H3 e3 => ?_) (fun ht H3 e3 => ?_)
    · refine s_ret (ev_un ev_c ru_neg) fun H4 e4 => ?_
      have e : cmp3 (x.1 * y.2) (y.1 * x.2) = -1 := if_pos (of_decide_eq_true ht)
      rw [e] at k
      exact k _ (((e1.trans e2).trans e3).trans e4)
    · have h1 : ¬ x.1 * y.2 < y.1 * x.2 := of_decide_eq_false ht
      refine q_when (et_test (ev_op (ev_var rfl) (ev_var rfl) rv_I0)) (fun ht H4 e4 => ?_) (fun ht H4 e4 => ?_)
      · refine s_ret ev_c fun H5 e5 => ?_
        have e : cmp3 (x.1 * y.2) (y.1 * x.2) = 1 := (if_neg h1).trans (if_pos (of_decide_eq_true ht))
        rw [e] at k
        exact k _ ((((e1.trans e2).trans e3).trans e4).trans e5)
      · refine s_ret ev_c fun H5 e5 => ?_
        have e : cmp3 (x.1 * y.2) (y.1 * x.2) = 0 := (if_neg h1).trans (if_neg (of_decide_eq_false ht))
        rw [e] at k
        exact k _ ((((e1.trans e2).trans e3).trans e4).trans e5)
end
end Hs
namespace Hs
open PySem PySem.Spec PyProof.Rows L2 Evl
def spBetw (K : PySem.W.Frag) (n m : Nat) : Sp := fun vs H Q _ => ∃ p q w u a b, vs = [.ref p, .int a, .ref q, .int b] ∧ Ws K H p w ∧ Ws K H q u ∧ w.length = u.length ∧ w.length ≤ 3 ∧ BdL n w ∧ BdL n u ∧ Bd m a ∧ Bd m b ∧ gl 0 (mid w a u b) ≠ 0 ∧ RetU ((betw w a u b).map V.int) H Q
theorem mid_bd {n m : Nat} {w u : List Int} {a b : Int} (hw : BdL n w) (hu : BdL n u) (ha : Bd m a) (hb : Bd m b) : BdL (n + m + 1) (mid w a u b) := by
  intro x hx
  obtain ⟨k, hk⟩ := List.getElem?_of_mem hx
  unfold mid comb at hk
  rw [List.getElem?_zipWith] at hk
  cases h1 : w[k]? with
  | none => rw [h1] at hk; cases hk
  | some i =>
    cases h2 : u[k]? with
    | none => rw [h1, h2] at hk; cases hk
    | some j =>
      rw [h1, h2] at hk
      rw [← Option.some.inj hk]
      have a' : Bd m (a.natAbs : Int) := by
        unfold Bd at *
        omega
      have b' : Bd m (b.natAbs : Int) := by
        unfold Bd at *
        omega
      exact ((hw i (List.mem_of_getElem? h1)).mul b').add ((hu j (List.mem_of_getElem? h2)).mul a')
theorem gl_bd {n : Nat} {ws : List Int} (h : BdL n ws) (hn : gl 0 ws ≠ 0) : Bd n (gl 0 ws) := by
  obtain ⟨w, h1, h2⟩ : ∃ w ∈ ws, w ≠ 0 := by
    refine Decidable.byContradiction fun hh => hn ?_
    have : ∀ w ∈ ws, w = 0 := fun w hw => Decidable.byContradiction fun q => hh ⟨w, hw, q⟩
    clear h hn hh
    induction ws with
    | nil => rfl
    | cons x xs ih =>
      have e : x = 0 := this x (List.mem_cons_self ..)
      subst e
      show gl ((Int.gcd 0 0 : Nat) : Int) xs = 0
      exact ih fun w hw => this w (List.mem_cons_of_mem _ hw)
  have dv := (gl_dvd (ws := ws) (g := 0)).2 w h1
  refine Nat.lt_of_le_of_lt (Nat.le_of_dvd (by omega) (Int.natAbs_dvd_natAbs.mpr dv)) (h w h1)
section
variable {P : Program} {w : World} {K : PySem.W.Frag} {mg : Str → Option Value} {base : Heap} {f : Addr} {fd : FuncData} {n m : Nat}
abbrev sBetw : Stmt := top 9
theorem scBetw : FnScope ["one", "one_height", "other", "other_height", "weights", "part", "weight", "other_weight"] ["one", "one_height", "other", "other_height"] (defScope sBetw) := ⟨rfl, rfl, rfl, by decide +kernel, rfl, by decide +kernel, by decide +kernel⟩
theorem ok_betw (F : FnP K "between" sBetw f fd) (O_common_part : Own P w K mg base 1 "common_part" ["one", "other"] spGcd) (g_abs : mg "abs" = none) (g_zip : mg "zip" = none) (g_tuple : mg "tuple" = none) (hn : n + m + 1 ≤ 13400) : FnOk P w K mg base CX0 2 f fd ["one", "one_height", "other", "other_height"] (spBetw K n m) := by
  have nd := scBetw.nd
  refine F.ok scBetw (fun vs H Q E h => ?_) (fun cdv A outer s H vs Q E hr h => ⟨_, PSs.nox (pss_cons (ps_setLc (i := 4) (own := [("weight", 6), ("other_weight", 7)]) (g := gTup K 2 (gCons (gName 6) (gCons (gName 7) gNil))) rfl nd rfl rfl (sw_true rfl rfl rfl (by decide +kernel)) (RZ.pi_zipA (by rfl) g_zip (pa_cons (pv 0) (pa_cons (pv 2) pa_nil))) (blkOk_by (N := ["one", "one_height", "other", "other_height", "weights", "part", "weight", "other_weight"]) (sc := defScope (Hs.top 9)) (by decide +kernel)) (fun _ _ _ _ _ => (pg_tup rfl (pgs_cons (pg_name (i := 6) nd rfl (Or.inl rfl)) (pgs_cons (pg_name (i := 7) nd rfl (Or.inl rfl)) pgs_nil)))) (fun _ _ _ _ _ => pts_nil) (fun _ _ _ _ _ => (pe_op op_add (pe_op op_mulW (pv 6) (pe_callB call_abs (by rfl) g_abs (by decide +kernel) (pa_cons (pv 3) pa_nil))) (pe_op op_mulW (pv 7) (pe_callB call_abs (by rfl) g_abs (by decide +kernel) (pa_cons (pv 1) pa_nil))))))
  (pss_cons (ps_set (i := 5) nd rfl (.inr rfl) pe_int)
  (pss_cons (ps_for PassesOwn.never rfl (pi_list (pv 4)) (pg_name (i := 6) nd rfl (.inl rfl)) (pss_one (ps_set (i := 5) nd rfl (.inr rfl) (Hs.pe_own O_common_part hr (by first | decide | omega) (by rfl) (pa_cons (pv 5) (pa_cons (pv 6) pa_nil))))))
  (pss_one (ps_ret (pe_callTy call_tuple_of (by rfl) g_tuple (by decide +kernel) (pa_cons (pe_lc (own := [("weight", 6)]) rfl nd (pi_list (pv 4)) (blkOk_by (N := ["one", "one_height", "other", "other_height", "weights", "part", "weight", "other_weight"]) (sc := defScope (Hs.top 9)) (by decide +kernel)) (fun _ _ _ _ _ => (pg_name (i := 6) nd rfl (Or.inl rfl))) (fun _ _ _ _ _ => pts_nil) (fun _ _ _ _ _ => (pe_op Hs.op_fdivG (pv 6) (pv 5)))) pa_nil))))))), ?_⟩)
  · obtain ⟨p, q, w, u, a, b, rfl, _⟩ := h
    rfl
  · obtain ⟨p, q, w, u, a, b, rfl, hw, hu, hl, hz, bw, bu, ba, bb, gn, k⟩ := h
    have ml : (mid w a u b).length = w.length := comb_len hl
    refine q_asgL (xs := (mid w a u b).map V.int) ?_ fun t H1 nt e1 ht => ?_
    · rw [← given_ints (n := w.length) (f := fun k => w.getD k 0 * (b.natAbs : Int) + u.getD k 0 * (a.natAbs : Int)) ml (fun k x hx => zip_at hx)]
      have e0 : w.length = (w.map V.int).length := (List.length_map ..).symm
      rw [e0]
      refine el_zipT _ (ev_var rfl) (ev_var rfl) hw hu (by simp [hl]) (by simp; omega) (fun _ _ => rfl) (fun k x y H1 e1 hx hy => ?_)
      obtain ⟨i, hi, rfl⟩ := at_int hx
      obtain ⟨j, hj, rfl⟩ := at_int hy
      rw [getD_at hi, getD_at hj]
      have a' : Bd m (a.natAbs : Int) := by
        unfold Bd at *
        omega
      have b' : Bd m (b.natAbs : Int) := by
        unfold Bd at *
        omega
      exact ev_op (ev_op (ev_var rfl) (ev_cb (ea_cons (ev_var rfl) ea_nil) rc_abs) (rv_I ((bw i (List.mem_of_getElem? hi)).cmul b' (by omega)))) (ev_op (ev_var rfl) (ev_cb (ea_cons (ev_var rfl) ea_nil) rc_abs) (rv_I ((bu j (List.mem_of_getElem? hj)).cmul a' (by omega)))) rv_I0
    · have bm := mid_bd bw bu ba bb
      unfold betw at k
      generalize mid w a u b = ws at *
      refine q_asg ev_c fun H2 e2 => ?_
      have e12 := e1.trans e2
      refine q_forLn (a := t) (xs := ws.map V.int) (ev_var rfl) (sq_of (e2 _ _ ht)) (fun i σ' H' => Ex H2 H' ∧ ∃ v : Option V, σ' = [some (.ref p), some (.int a), some (.ref q), some (.int b), some (.ref t), some (.int (gl 0 (ws.take i))), v, none]) ?_ ?_ ?_ ?_
      · intro H3 e3
        exact ⟨e3, none, rfl⟩
      · rintro i σ' H' _ ⟨e, _⟩
        exact sq_of (e _ _ (e2 _ _ ht))
      · rintro i x σ' H' hx ⟨e, v, rfl⟩
        obtain ⟨j, hj, rfl⟩ := at_int hx
        refine s_asg (ev_call (ea_cons (ev_var rfl) (ea_cons (ev_var rfl) ea_nil)) fun H1 e1 Q' q E' => ⟨_, _, rfl, q⟩) fun H3 e3 => ⟨e.trans e3, some (.int j), ?_⟩
        have eg : ∀ (g : Int) (l : List Int) (y : Int), gl g (l ++ [y]) = (Int.gcd (gl g l) y : Int) := by
          intro g l
          induction l generalizing g with
          | nil => intro y; rfl
          | cons z l ih => intro y; exact ih _ y
        rw [List.take_add_one, hj, show (some j).toList = [j] from rfl, eg]
        rfl
      · rintro σ' H' ⟨e, v, rfl⟩
        rw [List.length_map, List.take_length]
        have bg := gl_bd bm gn
        have e2' := e12.trans e
        have hl3 : ws.length ≤ 3 := by omega
        refine s_retU (eu_tuple (K := K) (xs := (ws.map (·.fdiv (gl 0 ws))).map V.int) ?_) fun r H3 hr e3 h3 => k r H3 (fresh_back e2' hr) (e2'.trans e3) h3
        rw [← given_ints (n := (ws.map V.int).length) (f := fun k => (ws.getD k 0).fdiv (gl 0 ws)) (by simp) (fun k x hx => ?_)]
        · refine el_lcL (K := K) (xs := ws.map V.int) (fun _ => true) _ (ev_var rfl) (sq_of (e _ _ (e2 _ _ ht))) (by simp; omega) (fun _ => rfl) (fun i x H1 e1 hx H2 e2 Q q => q H2 (Ex.refl H2)) (fun i x H1 e1 hx _ => ?_)
          obtain ⟨j, hj, rfl⟩ := at_int hx
          rw [getD_at hj]
          exact ev_op (ev_var rfl) (ev_var rfl) (rv_I (divX gn (bm j (List.mem_of_getElem? hj)) (by omega) hn))
        · rw [List.getElem?_map] at hx
          obtain ⟨y, h1, h2⟩ := Option.map_eq_some_iff.mp hx
          rw [getD_at h1, ← h2]
end
end Hs
namespace Hs
open PySem PySem.Spec PyProof.Rows L2 Evl
theorem st_upd {K : PySem.W.Frag} {H : Hp} {l p : Addr} {xs ys zs : List V} (h : SqT K H p zs) (hl : H l = some (.lst xs)) : SqT K (upd H l (.lst ys)) p zs := by
  rcases h with (h | ⟨o, h⟩) | h
  · refine .inl (.inl ?_)
    rw [upd_ne (ne_of h hl (by intro z; cases z))]
    exact h
  · refine .inl (.inr ⟨o, ?_⟩)
    rw [upd_ne (ne_of h hl (by intro z; cases z))]
    exact h
  · exact .inr h
/-- weights that stand, in a row -/
def WsL (K : PySem.W.Frag) (H : Hp) (ps : List Addr) (ws : List (List Int)) : Prop := ps.length = ws.length ∧ ∀ (i : Nat) (p : Addr) (w : List Int), ps[i]? = some p → ws[i]? = some w → Ws K H p w
theorem WsL.ext {K : PySem.W.Frag} {H H' : Hp} {ps : List Addr} {ws : List (List Int)} (h : WsL K H ps ws) (e : Ex H H') : WsL K H' ps ws := ⟨h.1, fun i p u hp hu => (h.2 i p u hp hu).ext e⟩
theorem WsL.snoc {K : PySem.W.Frag} {H : Hp} {ps : List Addr} {us : List (List Int)} {p : Addr} {u : List Int} (h : WsL K H ps us) (hp : Ws K H p u) : WsL K H (ps ++ [p]) (us ++ [u]) := by
  refine ⟨by rw [List.length_append, List.length_append, h.1] <;> rfl, fun j r v hr hv => ?_⟩
  have hl := h.1
  by_cases hj : j < ps.length
  · rw [List.getElem?_append_left hj] at hr
    rw [List.getElem?_append_left (by omega)] at hv
    exact h.2 j r v hr hv
  · rw [List.getElem?_append_right (by omega)] at hr
    rw [List.getElem?_append_right (by omega)] at hv
    have e0 : j - ps.length = 0 := by
      have : j - ps.length < 1 := (List.getElem?_eq_some_iff.mp hr).1
      omega
    have e1 : j - us.length = 0 := by omega
    rw [e0] at hr
    rw [e1] at hv
    cases hr
    cases hv
    exact hp
theorem WsL.upd {K : PySem.W.Frag} {H : Hp} {l : Addr} {ps : List Addr} {ws : List (List Int)} {xs ys : List V} (h : WsL K H ps ws) (hl : H l = some (.lst xs)) : WsL K (upd H l (.lst ys)) ps ws := ⟨h.1, fun i p u hp hu => st_upd (h.2 i p u hp hu) hl⟩
def RetW (K : PySem.W.Frag) (ws : List (List Int)) (H : Hp) (Q : VK) : Prop := ∀ (r : Addr) (ps : List Addr) (H2 : Hp), Ex H H2 → SqL K H2 r (ps.map V.ref) → WsL K H2 ps ws → Q (.ref r) H2
theorem dot_bd {n m : Nat} {w h : List Int} (hw : BdL n w) (hh : BdL m h) (hl : w.length = h.length) (h3 : w.length ≤ 3) : Bd (n + m + 2) (dot w h) := by
  have key : ∀ {a b : Int}, a ∈ w → b ∈ h → Bd (n + m) (a * b) := fun ha hb => (hw _ ha).mul (hh _ hb)
  unfold dot
  match w, h, hl, h3 with
  | [], [], _, _ => exact Bd.mono (n := 0) (by unfold Bd; decide) (by omega)
  | [a], [x], _, _ =>
    have := (key (a := a) (b := x) (by simp) (by simp)).mono (show n + m ≤ n + m + 2 by omega)
    simpa using this
  | [a, b], [x, y], _, _ =>
    have := ((key (a := a) (b := x) (by simp) (by simp)).add (key (a := b) (b := y) (by simp) (by simp))).mono (show n + m + 1 ≤ n + m + 2 by omega)
    simpa using this
  | [a, b, c], [x, y, z], _, _ =>
    have := ((key (a := a) (b := x) (by simp) (by simp)).mono (show n + m ≤ n + m + 1 by omega)).add ((key (a := b) (b := y) (by simp) (by simp)).add (key (a := c) (b := z) (by simp) (by simp)))
    simpa using this
theorem fdiv_bd {n : Nat} {x g : Int} (h : Bd n x) (hg : g ∣ x) : Bd n (x.fdiv g) := by
  rw [Int.fdiv_eq_ediv_of_dvd hg]
  obtain ⟨y, rfl⟩ := hg
  unfold Bd at *
  by_cases h0 : g = 0
  · subst h0
    simp
    exact Nat.two_pow_pos n
  · rw [Int.mul_ediv_cancel_left _ h0]
    rw [Int.natAbs_mul] at h
    exact Nat.lt_of_le_of_lt (Nat.le_mul_of_pos_left _ (by omega)) h
theorem betw_bd {n m : Nat} {w u : List Int} {a b : Int} (hw : BdL n w) (hu : BdL n u) (ha : Bd m a) (hb : Bd m b) : BdL (n + m + 1) (betw w a u b) := by
  intro x hx
  obtain ⟨y, hy, rfl⟩ := List.mem_map.mp hx
  exact fdiv_bd (mid_bd hw hu ha hb y hy) ((gl_dvd (ws := mid w a u b) (g := 0)).2 y hy)
/-- all of some points are weights of k within 2 ^ n -/
def Pts' (k n : Nat) (ws : List (List Int)) : Prop := ∀ w ∈ ws, Wt k w ∧ BdL n w
theorem cut_pts {k n m : Nat} {h : List Int} {ws : List (List Int)} (hw : Pts' k n ws) (hh : BdL m h) (hl : h.length = k) (h3 : k ≤ 3) : Pts' k (n + (n + m + 2) + 1) (cutA h ws) := by
  intro x hx
  unfold cutA at hx
  rcases cutL_mem hx with ⟨q1, q2⟩ | ⟨q, q1, p, p1, hc, rfl⟩
  · exact ⟨(hw x q1).1, fun y hy => ((hw x q1).2 y hy).mono (by omega)⟩
  · have qm : q ∈ ws := by
      rcases List.mem_cons.mp q1 with rfl | q1
      · exact lastD_mem (fun z => by rw [z] at p1; cases p1)
      · exact q1
    have hq := hw q qm
    have hp := hw p p1
    exact ⟨(betw_ok hq.1 hp.1 hc).1, betw_bd hq.2 hp.2 (dot_bd hq.2 hh (hq.1.len.trans hl.symm) (by rw [hq.1.len]; exact h3)) (dot_bd hp.2 hh (hp.1.len.trans hl.symm) (by rw [hp.1.len]; exact h3))⟩
theorem emit_len (h prev p : List Int) : (emit h prev p).length ≤ 2 := by
  unfold emit
  rw [List.length_append]
  split <;> split <;> simp
theorem cutL_len {h : List Int} : ∀ {prev : List Int} {ws : List (List Int)}, (cutL h prev ws).length ≤ 2 * ws.length
  | prev, [] => Nat.le_refl _
  | prev, p :: ps => by
    have := cutL_len (h := h) (prev := p) (ws := ps)
    have := emit_len h prev p
    simp only [cutL, List.length_append, List.length_cons]
    omega
section
variable {K : PySem.W.Frag} {σ : L2.St} {H : Hp} {tl : TE} {tu tz : TS} {D : Ends}
theorem q_forEnum {a : Addr} {xs : List V} {i j : Nat} (h : Ev tl σ H (.ref a)) (hx : SqL K H a xs) (Pv : Nat → L2.St → Hp → Prop) (h0 : ∀ H1, Ex H H1 → Pv 0 σ H1) (hG : ∀ k σ' H', k ≤ xs.length → Pv k σ' H' → SqL K H' a xs)
    (hs : ∀ (k : Nat) (x : V) (σ' : L2.St) (H' : Hp) (T : Addr), xs[k]? = some x → Pv k σ' H' → H' T = none → tu { D with nx := Pv (k + 1), ct := Pv (k + 1), bk := tz D } ((σ'.set i (some (.int (k : Nat)))).set j (some x)) (upd H' T (.tup [.int (k : Nat), x])))
    (hd : ∀ σ' H', Pv xs.length σ' H' → tz D σ' H') : tSeq (tFor (iEnum K (tCons tl tNil)) (gTup K 2 (gCons (gName i) (gCons (gName j) gNil))) tu) tz D σ H := by
  refine h H (Ex.refl H) _ fun H1 e1 => ⟨a, xs, rfl, ex_l e1 hx, ?_⟩
  refine for_it (D := { D with nx := tz D }) (walk_enum (K := K) (a := a) (xs := xs)) Pv (h0 H1 e1) hG (fun k x σ' H' H'' hk p y => ?_) hd
  obtain ⟨T, u, v, rfl, hT, rfl, f1, f2⟩ := y
  cases f1
  exact ⟨T, _, rfl, st_of upd_same, rfl, _, _, rfl, _, _, rfl, rfl, hs k v σ' H' T f2 p hT⟩
theorem walk_S2 {a b : Addr} {xs ys : List V} (hl : xs.length = ys.length) : Walk (ItS2 K a b) xs.length (fun H => SqT K H a xs ∧ SqT K H b ys) (YPair (fun i => xs[i]?) (fun i => ys[i]?)) := by
  refine ⟨fun i _ hi q => ?_, fun _ q => ⟨xs, ys, q.1, q.2, Nat.le_refl _⟩, fun i H v H' _ q y => ?_⟩
  · have h2 : i < ys.length := by omega
    exact ⟨xs, ys, xs[i], ys[i], q.1, q.2, by simp [hi], by simp [h2]⟩
  · obtain ⟨T, x, z, h1, h2, h3, h4, h5⟩ := y
    exact ⟨T, x, z, h1, h2, h3, h4 xs q.1, h5 ys q.2⟩
theorem q_forS2 {r a b : Addr} {xs ys : List V} {i : Nat} (h : Ev tl σ H (.ref r)) (hr : SqL K H r [.ref a, .ref b]) (hx : SqT K H a xs) (hy : SqT K H b ys) (hl : xs.length = ys.length) (Pv : Nat → L2.St → Hp → Prop) (h0 : ∀ H1, Ex H H1 → Pv 0 σ H1) (hG : ∀ k σ' H', k ≤ xs.length → Pv k σ' H' → Ex H H')
    (hs : ∀ (k : Nat) (x y : V) (σ' : L2.St) (H' : Hp) (T : Addr), xs[k]? = some x → ys[k]? = some y → Pv k σ' H' → H' T = none → tu { D with nx := Pv (k + 1), ct := Pv (k + 1), bk := tz D } (σ'.set i (some (.ref T))) (upd H' T (.tup [x, y])))
    (hd : ∀ σ' H', Pv xs.length σ' H' → tz D σ' H') : tSeq (tFor (iZipS2 K tl) (gName i) tu) tz D σ H := by
  refine h H (Ex.refl H) _ fun H1 e1 => ⟨r, a, b, xs, ys, rfl, ex_l e1 hr, ex_t e1 hx, ex_t e1 hy, ?_⟩
  refine for_it (D := { D with nx := tz D }) (walk_S2 (K := K) (a := a) (b := b) hl) Pv (h0 H1 e1) (fun k σ' H' hk p => ⟨ex_t (hG k σ' H' hk p) hx, ex_t (hG k σ' H' hk p) hy⟩) (fun k x σ' H' H'' hk p y => ?_) hd
  obtain ⟨T, u, v, rfl, hT, rfl, f1, f2⟩ := y
  exact hs k u v σ' H' T f1 f2 p hT
end
def spCut (K : PySem.W.Frag) (k n m : Nat) : Sp := fun vs H Q _ => ∃ (l q : Addr) (ps : List Addr) (ws : List (List Int)) (h : List Int), vs = [.ref l, .ref q] ∧ SqL K H l (ps.map V.ref) ∧ WsL K H ps ws ∧ Pts' k n ws ∧ ws.length ≤ 1000 ∧ Ws K H q h ∧ h.length = k ∧ BdL m h ∧ RetW K (cutA h ws) H Q
/-- the point ahead, around -/
theorem at_prev {ps : List Addr} {ws : List (List Int)} {K : PySem.W.Frag} {H : Hp} {k : Nat} (hw : WsL K H ps ws) (hk : k < ws.length) : ∃ pb, atI (ps.map V.ref) ((k : Int) - 1) = some (.ref pb) ∧ Ws K H pb (lastD (lastD [] ws) (ws.take k)) ∧ lastD (lastD [] ws) (ws.take k) ∈ ws := by
  obtain ⟨hl, hW⟩ := hw
  cases k with
  | zero =>
    have hne : ws ≠ [] := fun z => by rw [z] at hk; cases hk
    have hp : ps.length - 1 < ps.length := by omega
    have e1 : ws[ps.length - 1]? = some (lastD [] ws) := by
      have : ∀ {l : List (List Int)} {d : List Int}, l ≠ [] → l[l.length - 1]? = some (lastD d l) := by
        intro l
        induction l with
        | nil => exact fun h => absurd rfl h
        | cons x xs ih =>
          intro d _
          cases xs with
          | nil => rfl
          | cons y ys =>
            have := ih (d := x) (by simp)
            simpa [lastD] using this
      rw [hl]
      exact this hne
    refine ⟨ps[ps.length - 1], ?_, hW _ _ _ (List.getElem?_eq_getElem hp) e1, lastD_mem hne⟩
    have e2 : ps = ps.take (ps.length - 1) ++ [ps[ps.length - 1]] := by
      have := List.take_append_drop (ps.length - 1) ps
      rw [List.drop_eq_getElem_cons hp] at this
      have e3 : ps.drop (ps.length - 1 + 1) = [] := List.drop_eq_nil_of_le (by omega)
      rw [e3] at this
      exact this.symm
    have e4 : ps.map V.ref = (ps.take (ps.length - 1)).map V.ref ++ [.ref ps[ps.length - 1]] := by
      conv => lhs; rw [e2]
      rw [List.map_append]
      rfl
    rw [e4]
    exact atI_last _ _
  | succ k =>
    have hk1 : k < ws.length := by omega
    have hk2 : k < ps.length := by omega
    have e1 : lastD (lastD [] ws) (ws.take (k + 1)) = ws[k] := by
      rw [List.take_add_one, List.getElem?_eq_getElem hk1]
      exact lastD_app
    refine ⟨ps[k], ?_, ?_, ?_⟩
    · have e2 : ((k + 1 : Nat) : Int) - 1 = (k : Int) := by omega
      rw [e2]
      refine atI_nat ?_
      rw [List.getElem?_map, List.getElem?_eq_getElem hk2]
      rfl
    · rw [e1]
      exact hW _ _ _ (List.getElem?_eq_getElem hk2) (List.getElem?_eq_getElem hk1)
    · rw [e1]
      exact List.getElem_mem hk1
theorem ev_height {K : PySem.W.Frag} {σ : L2.St} {H : Hp} {n m i j : Nat} {p q : Addr} {w h : List Int} {E : XK} (h1 : σ[i]? = some (some (.ref p))) (h2 : σ[j]? = some (some (.ref q))) (hw : Ws K H p w) (hh : Ws K H q h) (hl : w.length = h.length) (h3 : w.length ≤ 3) (bw : BdL n w) (bh : BdL m h) : Ev (tCall (spHeight K n m) [] E (tCons (tVar i) (tCons (tVar j) tNil))) σ H (.int (dot w h)) :=
  ev_call (ea_cons (ev_var h1) (ea_cons (ev_var h2) ea_nil)) fun H1 e1 Q' q' E' => ⟨p, q, w, h, rfl, hw.ext e1, hh.ext e1, hl, h3, bw, bh, q'⟩
section
variable {P : Program} {w : World} {K : PySem.W.Frag} {mg : Str → Option Value} {base : Heap} {f : Addr} {fd : FuncData} {k n m : Nat}
abbrev sCut : Stmt := top 10
theorem scCut : FnScope ["points", "heights", "kept", "at", "point", "before", "here", "there"] ["points", "heights"] (defScope sCut) := ⟨rfl, rfl, rfl, by decide +kernel, rfl, by decide +kernel, by decide +kernel⟩
theorem ok_cut (F : FnP K "cut" sCut f fd) (O_height : Own P w K mg base 1 "height" ["weights", "heights"] (spHeight K n m)) (O_between : Own P w K mg base 2 "between" ["one", "one_height", "other", "other_height"] (spBetw K n (n + m + 2))) (g_enumerate : mg "enumerate" = none) (h3 : k ≤ 3) (hb : n + m + 2 ≤ 40000) : FnOk P w K mg base CX0 3 f fd ["points", "heights"] (spCut K k n m) := by
  have nd := scCut.nd
  refine F.ok scCut (fun vs H Q E h => ?_) (fun cdv A outer s H vs Q E hr h => ⟨_, PSs.nox (pss_cons (ps_set (i := 2) nd rfl (.inl rfl) (pe_lst pa_nil))
  (pss_cons (ps_for PassesOwn.never rfl (pi_enum (by rfl) g_enumerate (pa_cons (pv 0) pa_nil)) (pg_tup rfl (pgs_cons (pg_name (i := 3) nd rfl (.inl rfl)) (pgs_cons (pg_name (i := 4) nd rfl (.inl rfl)) pgs_nil))) (pss_cons (ps_set (i := 5) nd rfl (.inl rfl) (pe_ix (r := rIxL K) ix_list (pv 0) (pe_op op_sub (pv 3) pe_int) (fun _ _ => rfl)))
  (pss_cons (ps_set (i := 6) nd rfl (.inl rfl) (Hs.pe_own O_height hr (by first | decide | omega) (by rfl) (pa_cons (pv 4) (pa_cons (pv 1) pa_nil))))
  (pss_cons (ps_set (i := 7) nd rfl (.inl rfl) (Hs.pe_own O_height hr (by first | decide | omega) (by rfl) (pa_cons (pv 5) (pa_cons (pv 1) pa_nil))))
  (Evl.pss_cut (ps_if (pt_cmpR op_lt (pe_op op_mulW (pv 6) (pv 7)) pe_int (nomark _)) (pss_one (ps_expr (pe_bm PySem.F.plainAttrs_list PySem.F.slot_list_append PySem.F.type_list_append mt_append (pv 2) (pa_cons (Hs.pe_own O_between hr (by first | decide | omega) (by rfl) (pa_cons (pv 5) (pa_cons (pv 7) (pa_cons (pv 4) (pa_cons (pv 6) pa_nil))))) pa_nil)))) pss_nil)
  (pss_one (ps_if (pt_cmpR op_ge (pv 6) pe_int (nomark _)) (pss_one (ps_expr (pe_bm PySem.F.plainAttrs_list PySem.F.slot_list_append PySem.F.type_list_append mt_append (pv 2) (pa_cons (pv 4) pa_nil)))) pss_nil)))))))
  (pss_one (ps_ret (pv 2))))), ?_⟩)
  · obtain ⟨l, q, ps, ws, h, rfl, _⟩ := h
    rfl
  · obtain ⟨l, q, ps, ws, h, rfl, hl, hw, hp, hz, hh, hk, bh, ret⟩ := h
    refine q_asgL (xs := []) (el_lst ea_nil (by simp)) fun kl H0 hkl e0 h0 => ?_
    refine q_forEnum (K := K) (a := l) (xs := ps.map V.ref) (ev_var rfl) (ex_l e0 hl) (fun i σ' H' => (∃ v3 v4 v5 v6 v7 : Option V, σ' = [some (.ref l), some (.ref q), some (.ref kl), v3, v4, v5, v6, v7]) ∧ Ex H H' ∧ ∃ acc : List Addr, H' kl = some (.lst (acc.map V.ref)) ∧ WsL K H' acc (cutL h (lastD [] ws) (ws.take i))) ?_ ?_ ?_ ?_
    · intro H1 e1
      exact ⟨⟨none, none, none, none, none, rfl⟩, e0.trans e1, [], e1 _ _ h0, rfl, fun i p u h => by cases h⟩
    · rintro i σ' H' _ ⟨_, e, _⟩
      exact ex_l e hl
    · rintro i x σ' H' T hx ⟨⟨v3, v4, v5, v6, v7, rfl⟩, e, acc, hkl', hacc⟩ hT
      rw [List.getElem?_map] at hx
      obtain ⟨p, hpi, rfl⟩ := Option.map_eq_some_iff.mp hx
      have hip : i < ps.length := (List.getElem?_eq_some_iff.mp hpi).1
      have hiw : i < ws.length := by
        have := hw.1
        omega
      have hwi : ws[i]? = some ws[i] := List.getElem?_eq_getElem hiw
      have hpw := hp ws[i] (List.getElem_mem hiw)
      obtain ⟨pb, hat, hbW, hbm⟩ := at_prev hw hiw
      have hbw := hp _ hbm
      generalize hprev : lastD (lastD [] ws) (ws.take i) = prev at hbW hbm hbw
      generalize hcur : ws[i] = cur at hwi hpw
      have eT := Ex.new (o := .tup [.int (i : Nat), .ref p]) hT
      have kT := eT _ _ hkl'
      have e1 := e.trans eT
      have aT := hacc.ext eT
      generalize upd H' T (.tup [.int (i : Nat), .ref p]) = H1 at eT kT e1 aT ⊢
      show tSeq (tAsg _ _) _ _ [some (.ref l), some (.ref q), some (.ref kl), some (.int (i : Int)), some (.ref p), v5, v6, v7] H1
      refine q_asg (v := .ref pb) (ev_op (ev_var rfl) (ev_op (ev_var rfl) ev_c rv_I0) (rv_ixL (ex_l e1 hl) hat)) fun H2 e2 => ?_
      have e12 := e1.trans e2
      refine q_asg (ev_height (i := 4) (j := 1) rfl rfl ((hw.2 i p cur hpi hwi).ext e12) (hh.ext e12) (hpw.1.len.trans hk.symm) (by rw [hpw.1.len]; exact h3) hpw.2 bh) fun H3 e3 => ?_
      have e13 := e12.trans e3
      refine q_asg (ev_height (i := 5) (j := 1) rfl rfl (hbW.ext e13) (hh.ext e13) (hbw.1.len.trans hk.symm) (by rw [hbw.1.len]; exact h3) hbw.2 bh) fun H4 e4 => ?_
      have e14 := e13.trans e4
      have e24 := (e2.trans e3).trans e4
      have k4 := e24 _ _ kT
      have a4 := aT.ext e24
      have bp := dot_bd hpw.2 bh (hpw.1.len.trans hk.symm) (by rw [hpw.1.len]; exact h3)
      have bb := dot_bd hbw.2 bh (hbw.1.len.trans hk.symm) (by rw [hbw.1.len]; exact h3)
      have hal : acc.length ≤ 2000 := by
        have h1 := cutL_len (h := h) (prev := lastD [] ws) (ws := ws.take i)
        rw [← hacc.1, List.length_take] at h1
        omega
      have esn : cutL h (lastD [] ws) (ws.take (i + 1)) = cutL h (lastD [] ws) (ws.take i) ++ emit h prev cur := by
        rw [List.take_add_one, hwi, ← hprev]
        exact cutL_snoc
      rw [esn]
      generalize cutL h (lastD [] ws) (ws.take i) = done at a4 ⊢
      refine q_cut (M := fun σ' H' => σ' = [some (.ref l), some (.ref q), some (.ref kl), some (.int (i : Int)), some (.ref p), some (.ref pb), some (.int (dot cur h)), some (.int (dot prev h))] ∧ Ex H H' ∧ ∃ acc : List Addr, acc.length ≤ 2001 ∧ H' kl = some (.lst (acc.map V.ref)) ∧ WsL K H' acc (done ++ (if dot cur h * dot prev h < 0 then [betw prev (dot prev h) cur (dot cur h)] else []))) ?_ ?_
      · refine s_when (et_test (ev_op (ev_op (ev_var rfl) (ev_var rfl) (rv_I (bp.cmul bb (by omega)))) ev_c rv_I0)) (fun ht H5 e5 => ?_) (fun ht H5 e5 => ?_)
        · have hc : dot cur h * dot prev h < 0 := of_decide_eq_true ht
          obtain ⟨_, g, g0, gq, _⟩ := betw_ok hbw.1 hpw.1 hc
          refine s_appU (K := K) (l := kl) (xs := acc.map V.ref) (ys := (betw prev (dot prev h) cur (dot cur h)).map V.int) (e5 _ _ k4) (ev_var rfl) ?_ (by rw [List.length_map]; omega) fun b H6 nb e6 hb6 => ?_
          · exact eu_call (ea_cons (ev_var rfl) (ea_cons (ev_var rfl) (ea_cons (ev_var rfl) (ea_cons (ev_var rfl) ea_nil)))) fun H6 e6 Q' q' E' => ⟨pb, p, prev, cur, _, _, rfl, hbW.ext ((e14.trans e5).trans e6), (hw.2 i p cur hpi hwi).ext ((e14.trans e5).trans e6), hbw.1.len.trans hpw.1.len.symm, by rw [hbw.1.len]; exact h3, hbw.2, hpw.2, bb, bp, by rw [gq]; omega, q'⟩
          · have k6 := e6 _ _ (e5 _ _ k4)
            refine ⟨rfl, Ex.mut ((e14.trans e5).trans e6) hkl, acc ++ [b], by rw [List.length_append]; show acc.length + 1 ≤ 2001; omega, by rw [upd_same, List.map_append] <;> rfl, ?_⟩
            rw [if_pos hc]
            exact ((a4.ext (e5.trans e6)).snoc (st_of hb6)).upd k6
        · rw [if_neg (of_decide_eq_false ht), List.append_nil]
          exact ⟨rfl, e14.trans e5, acc, by omega, e5 _ _ k4, a4.ext e5⟩
      · rintro σ' H5 ⟨rfl, e5, acc, hal, k5, a5⟩
        refine s_when (et_test (ev_op (ev_var rfl) ev_c rv_I0)) (fun ht H6 e6 => ?_) (fun ht H6 e6 => ?_)
        · refine s_app (K := K) (l := kl) (xs := acc.map V.ref) (e6 _ _ k5) (ev_var rfl) (ev_var rfl) (by rw [List.length_map]; omega) fun H7 e7 => ?_
          have e57 := e6.trans e7
          refine ⟨⟨_, _, _, _, _, rfl⟩, Ex.mut (e5.trans e57) hkl, acc ++ [p], by rw [upd_same, List.map_append] <;> rfl, ?_⟩
          have hge : 0 ≤ dot cur h := of_decide_eq_true ht
          have := ((a5.ext e57).snoc ((hw.2 i p cur hpi hwi).ext (e5.trans e57))).upd (ys := (acc ++ [p]).map V.ref) (e57 _ _ k5)
          rw [List.append_assoc] at this
          unfold emit
          rw [if_pos hge]
          rw [List.map_append] at this
          exact this
        · have hge : ¬ 0 ≤ dot cur h := of_decide_eq_false ht
          refine ⟨⟨_, _, _, _, _, rfl⟩, e5.trans e6, acc, e6 _ _ k5, ?_⟩
          unfold emit
          rw [if_neg hge, List.append_nil]
          exact a5.ext e6
    · rintro σ' H' ⟨⟨v3, v4, v5, v6, v7, rfl⟩, e, acc, hkl', hacc⟩
      rw [List.length_map, hw.1, List.take_length] at hacc
      exact s_ret (ev_var rfl) fun H2 e2 => ret kl acc H2 (e.trans e2) (sq_of (e2 _ _ hkl')) (hacc.ext e2)
end
end Hs
namespace Hs
open PySem PySem.Spec PyProof.Rows L2 Evl
/-- how many bits the weights may have behind i cuts -/
def bq (m : Nat) : Nat → Nat
  | 0 => 1
  | i + 1 => bq m i + (bq m i + m + 2) + 1
theorem bq_mono {m i j : Nat} (h : i ≤ j) : bq m i ≤ bq m j := by
  induction j with
  | zero =>
    have : i = 0 := by omega
    subst this
    exact Nat.le_refl _
  | succ j ih =>
    by_cases e : i = j + 1
    · subst e
      exact Nat.le_refl _
    · have := ih (by omega)
      show _ ≤ bq m j + (bq m j + m + 2) + 1
      omega
theorem fnok_ex {P : Program} {w : World} {K : PySem.W.Frag} {mg : Str → Option Value} {base : Heap} {CX : CXT} {k : Nat} {f : Addr} {fd : FuncData} {ps : List Str} {sp : Nat → Sp} {N : Nat} (h : ∀ n, n ≤ N → FnOk P w K mg base CX k f fd ps (sp n)) : FnOk P w K mg base CX k f fd ps (fun vs H Q E => ∃ n, n ≤ N ∧ sp n vs H Q E) :=
  ⟨fun vs H Q E ⟨n, hn, q⟩ => (h n hn).len vs H Q E q, fun A outer s H args us vs Q E hr e0 hb r ⟨n, hn, q⟩ => (h n hn).run A outer s H args us vs Q E hr e0 hb r q⟩
def spCutX (K : PySem.W.Frag) (k m N : Nat) : Sp := fun vs H Q E => ∃ n, n ≤ N ∧ spCut K k n m vs H Q E
theorem cutAll_snoc {h : List Int} : ∀ {hs pts : List (List Int)}, cutAll pts (hs ++ [h]) = cutA h (cutAll pts hs)
  | [], pts => rfl
  | k :: hs, pts => cutAll_snoc (hs := hs) (pts := cutA k pts)
theorem cutA_len {h : List Int} {ws : List (List Int)} : (cutA h ws).length ≤ 2 * ws.length := cutL_len
theorem cutAll_pts {k m : Nat} {ws hs : List (List Int)} (hw : Pts' k 1 ws) (hh : ∀ h ∈ hs, BdL m h ∧ h.length = k) (h3 : k ≤ 3) (i : Nat) (hi : i ≤ hs.length) : Pts' k (bq m i) (cutAll ws (hs.take i)) ∧ (cutAll ws (hs.take i)).length ≤ 2 ^ i * ws.length := by
  induction i with
  | zero => exact ⟨hw, by simp [cutAll]⟩
  | succ i ih =>
    obtain ⟨h1, h2⟩ := ih (by omega)
    have hlt : i < hs.length := by omega
    rw [List.take_add_one, List.getElem?_eq_getElem hlt]
    show Pts' _ _ (cutAll ws (hs.take i ++ [hs[i]])) ∧ _
    rw [show (some hs[i]).toList = [hs[i]] from rfl, cutAll_snoc]
    have hm := hh hs[i] (List.getElem_mem hlt)
    refine ⟨cut_pts h1 hm.1 hm.2 h3, ?_⟩
    have := cutA_len (h := hs[i]) (ws := cutAll ws (hs.take i))
    rw [Nat.pow_succ]
    have e : 2 ^ i * 2 * ws.length = 2 * (2 ^ i * ws.length) := by
      rw [Nat.mul_comm (2 ^ i) 2, Nat.mul_assoc]
    omega
theorem rows2_at {x y : List Int} {k : Nat} {a b : Int} (h1 : x[k]? = some a) (h2 : y[k]? = some b) : (rows2 x y)[k]? = some [a, b] := by
  unfold rows2
  rw [List.getElem?_zipWith, h1, h2]
theorem rows2_bd {m : Nat} {x y : List Int} (hx : BdL m x) (hy : BdL m y) : ∀ h ∈ rows2 x y, BdL m h ∧ h.length = 2 := by
  intro h hh
  refine ⟨?_, rows2_len h hh⟩
  obtain ⟨k, hk⟩ := List.getElem?_of_mem hh
  unfold rows2 at hk
  rw [List.getElem?_zipWith] at hk
  cases h1 : x[k]? with
  | none => rw [h1] at hk; cases hk
  | some a =>
    cases h2 : y[k]? with
    | none => rw [h1, h2] at hk; cases hk
    | some b =>
      rw [h1, h2] at hk
      have e := (Option.some.inj hk).symm
      subst e
      intro z hz
      have : z = a ∨ z = b := by simpa using hz
      rcases this with rfl | rfl
      · exact hx _ (List.mem_of_getElem? h1)
      · exact hy _ (List.mem_of_getElem? h2)
theorem rows2_length {x y : List Int} (h : x.length = y.length) : (rows2 x y).length = x.length := by simp [rows2, h]
def spDown (K : PySem.W.Frag) (m N : Nat) : Sp := fun vs H Q _ => ∃ (l r a b : Addr) (ps : List Addr) (ws : List (List Int)) (xs ys : List Int), vs = [.ref l, .ref r] ∧ SqL K H l (ps.map V.ref) ∧ WsL K H ps ws ∧ Pts' 2 1 ws ∧ ws.length ≤ 3 ∧ SqL K H r [.ref a, .ref b] ∧ Ws K H a xs ∧ Ws K H b ys ∧ xs.length = ys.length ∧ xs.length ≤ 6 ∧ BdL m xs ∧ BdL m ys ∧ RetW K (cutAll ws (rows2 xs ys)) H Q
section
variable {P : Program} {w : World} {K : PySem.W.Frag} {mg : Str → Option Value} {base : Heap} {f : Addr} {fd : FuncData} {n m N : Nat}
abbrev sDown : Stmt := top 11
theorem scDown : FnScope ["points", "rows", "left", "heights"] ["points", "rows"] (defScope sDown) := ⟨rfl, rfl, rfl, by decide +kernel, rfl, by decide +kernel, by decide +kernel⟩
theorem ok_down (F : FnP K "cut_down" sDown f fd) (O_cut : Own P w K mg base 3 "cut" ["points", "heights"] (spCutX K 2 m N)) (g_zip : mg "zip" = none) (hN : bq m 5 ≤ N) : FnOk P w K mg base CX0 4 f fd ["points", "rows"] (spDown K m N) := by
  have nd := scDown.nd
  refine F.ok scDown (fun vs H Q E h => ?_) (fun cdv A outer s H vs Q E hr h => ⟨_, PSs.nox (pss_cons (ps_set (i := 2) nd rfl (.inl rfl) (pv 0))
  (pss_cons (ps_for PassesOwn.never rfl (Hs.pi_zipS2 (by rfl) g_zip (pv 1)) (pg_name (i := 3) nd rfl (.inl rfl)) (pss_one (ps_set (i := 2) nd rfl (.inl rfl) (Hs.pe_own O_cut hr (by first | decide | omega) (by rfl) (pa_cons (pv 2) (pa_cons (pv 3) pa_nil))))))
  (pss_one (ps_ret (pv 2))))), ?_⟩)
  · obtain ⟨l, r, a, b, ps, ws, xs, ys, rfl, _⟩ := h
    rfl
  · obtain ⟨l, r, a, b, ps, ws, xs, ys, rfl, hl, hw, hp, hz, hr', hx, hy, hxy, h6, bx, by', ret⟩ := h
    have hrb := rows2_bd bx by'
    have hrl := rows2_length hxy
    refine q_asg (ev_var rfl) fun H0 e0 => ?_
    refine q_forS2 (K := K) (ev_var rfl) (ex_l e0 hr') (ex_t e0 hx) (ex_t e0 hy) (by simp [hxy]) (fun i σ' H' => Ex H0 H' ∧ ∃ (t : Addr) (v : Option V) (ps : List Addr), σ' = [some (.ref l), some (.ref r), some (.ref t), v] ∧ SqL K H' t (ps.map V.ref) ∧ WsL K H' ps (cutAll ws ((rows2 xs ys).take i))) ?_ ?_ ?_ ?_
    · intro H1 e1
      exact ⟨e1, l, none, ps, rfl, ex_l (e0.trans e1) hl, hw.ext (e0.trans e1)⟩
    · rintro k σ' H' _ ⟨e, _⟩
      exact e
    · rintro k x y σ' H' T hx' hy' ⟨e, t, v, qs, rfl, ht, hqs⟩ hT
      obtain ⟨i, hi, rfl⟩ := at_int hx'
      obtain ⟨j, hj, rfl⟩ := at_int hy'
      have eT := Ex.new (o := .tup [V.int i, .int j]) hT
      have hk : k < xs.length := (List.getElem?_eq_some_iff.mp hi).1
      obtain ⟨p1, p2⟩ := cutAll_pts hp hrb (by decide) k (by omega)
      have hat := rows2_at hi hj
      have hm := hrb _ (List.mem_of_getElem? hat)
      have len1 : (cutAll ws ((rows2 xs ys).take k)).length ≤ 1000 := by
        have : 2 ^ k ≤ 2 ^ 5 := Nat.pow_le_pow_right (by decide) (by omega)
        have : 2 ^ k * ws.length ≤ 2 ^ 5 * 3 := Nat.mul_le_mul this hz
        omega
      have nk : bq m k ≤ N := Nat.le_trans (bq_mono (by omega)) hN
      refine ⟨_, rfl, _, rfl, bq m k, nk, t, T, qs, _, [i, j], rfl, ex_l eT ht, hqs.ext eT, p1, len1, st_of upd_same, rfl, hm.1, fun t2 qs2 H2 e2 ht2 hq2 => ?_⟩
      refine ⟨(e.trans eT).trans e2, t2, some (.ref T), qs2, rfl, ht2, ?_⟩
      rw [List.take_add_one, hat, show (some [i, j]).toList = [[i, j]] from rfl, cutAll_snoc]
      exact hq2
    · rintro σ' H' ⟨e, t, v, qs, rfl, ht, hqs⟩
      rw [List.length_map, ← hrl, List.take_length] at hqs
      exact s_ret (ev_var rfl) fun H2 e2 => ret t qs H2 ((e0.trans e).trans e2) (ex_l e2 ht) (hqs.ext e2)
end
/-! ### the least and the greatest share -/
def shr (w : List Int) : Pt := low (w.getD (w.length - 1) 0) (w.getD (w.length - 2) 0 + w.getD (w.length - 1) 0)
def leS (l s : Pt) : Pt := if cmp3 (s.1 * l.2) (l.1 * s.2) < 0 then s else l
def grS (l s : Pt) : Pt := if cmp3 (s.1 * l.2) (l.1 * s.2) > 0 then s else l
def leastS (xs : List Pt) : Pt := xs.foldl leS (xs.getD 0 (0, 1))
def greatS (xs : List Pt) : Pt := xs.foldl grS (xs.getD 0 (0, 1))
/-- two fractions in a tuple -/
def RetP (K : PySem.W.Frag) (x y : Pt) (H : Hp) (Q : VK) : Prop := ∀ (p a b : Addr) (H2 : Hp), Ex H H2 → H2 p = some (.tup [.ref a, .ref b]) → SqT K H2 a (prV x) → SqT K H2 b (prV y) → Q (.ref p) H2
/-- weights with a share: of two or three, the last two not both 0 -/
def ShW (n : Nat) (w : List Int) : Prop := 2 ≤ w.length ∧ w.length ≤ 3 ∧ BdL n w ∧ 0 < w.getD (w.length - 2) 0 + w.getD (w.length - 1) 0
def spEnds (K : PySem.W.Frag) (n : Nat) : Sp := fun vs H Q _ => ∃ (l : Addr) (ps : List Addr) (ws : List (List Int)), vs = [.ref l] ∧ SqL K H l (ps.map V.ref) ∧ WsL K H ps ws ∧ (∀ w ∈ ws, ShW n w) ∧ ws.length ≤ 1000 ∧ (ws = [] → RetV .non H Q) ∧ (ws ≠ [] → RetP K (leastS (ws.map shr)) (greatS (ws.map shr)) H Q)
theorem getD_bd {n : Nat} {w : List Int} (h : BdL n w) (k : Nat) : Bd n (w.getD k 0) := by
  rw [List.getD_eq_getElem?_getD]
  cases hk : w[k]? with
  | none => exact Nat.two_pow_pos n
  | some x => exact h x (List.mem_of_getElem? hk)
theorem shr_bd {n : Nat} {w : List Int} (h : ShW n w) : Bd (n + 1) (shr w).1 ∧ Bd (n + 1) (shr w).2 := by
  obtain ⟨_, _, hb, hp⟩ := h
  have h1 := getD_bd hb (w.length - 1)
  have h2 := getD_bd hb (w.length - 2)
  have hs := h2.add h1
  unfold shr
  refine ⟨Nat.lt_of_le_of_lt (low_b1 (by omega)) (h1.mono (Nat.le_succ _)), Nat.lt_of_le_of_lt (low_b2 (by omega)) hs⟩
theorem foldl_mem {f : Pt → Pt → Pt} (hf : ∀ a b, f a b = a ∨ f a b = b) : ∀ {xs : List Pt} {d : Pt}, xs.foldl f d = d ∨ xs.foldl f d ∈ xs
  | [], d => .inl rfl
  | x :: xs, d => by
    rcases foldl_mem hf (xs := xs) (d := f d x) with h | h
    · rcases hf d x with e | e
      · exact .inl (by rw [List.foldl_cons, h, e])
      · exact .inr (by rw [List.foldl_cons, h, e]; exact List.mem_cons_self ..)
    · exact .inr (List.mem_cons_of_mem _ h)
theorem at_neg1 {w : List Int} (h : 2 ≤ w.length) : atI (w.map V.int) (-1) = some (.int (w.getD (w.length - 1) 0)) ∧ atI (w.map V.int) (-2) = some (.int (w.getD (w.length - 2) 0)) := by
  have g : ∀ k, k < w.length → (w.map V.int)[k]? = some (.int (w.getD k 0)) := fun k hk => by
    rw [List.getElem?_map, List.getElem?_eq_getElem hk, List.getD_eq_getElem?_getD, List.getElem?_eq_getElem hk]
    rfl
  have l : (w.map V.int).length = w.length := List.length_map ..
  constructor
  · unfold atI ixN
    rw [l, if_neg (by decide), if_pos (by omega)]
    have e : (-1 + (w.length : Int)).toNat = w.length - 1 := by omega
    rw [e]
    exact g _ (by omega)
  · unfold atI ixN
    rw [l, if_neg (by decide), if_pos (by omega)]
    have e : (-2 + (w.length : Int)).toNat = w.length - 2 := by omega
    rw [e]
    exact g _ (by omega)
theorem et_tru {K : PySem.W.Frag} {σ : L2.St} {H : Hp} {ta : TE} {p : Addr} {xs : List V} (ha : Ev ta σ H (.ref p)) (h : SqL K H p xs) : EvT (fun σ H Q => ta σ H fun x H' => ∃ k, TruV K x H' k ∧ Q k H') σ H (!xs.isEmpty) := fun H1 e Q q =>
  ha H1 e _ fun H2 e2 => ⟨_, .inl ⟨xs, ex_l (e.trans e2) h, rfl⟩, q H2 e2⟩
section
variable {P : Program} {w : World} {K : PySem.W.Frag} {mg : Str → Option Value} {base : Heap} {f : Addr} {fd : FuncData} {n : Nat}
abbrev sEnds : Stmt := top 12
theorem scEnds : FnScope ["points", "told", "least", "greatest", "share", "point"] ["points"] (defScope sEnds) := ⟨rfl, rfl, rfl, by decide +kernel, rfl, by decide +kernel, by decide +kernel⟩
theorem ok_ends (F : FnP K "end_shares" sEnds f fd) (O_fraction : Own P w K mg base 2 "fraction" ["top", "bottom"] spFracP) (O_order : Own P w K mg base 1 "order" ["one", "other"] (spOrd K (n + 1))) (hn : n + 1 ≤ 13000) : FnOk P w K mg base CX0 3 f fd ["points"] (spEnds K n) := by
  have nd := scEnds.nd
  refine F.ok scEnds (fun vs H Q E h => ?_) (fun cdv A outer s H vs Q E hr h => ⟨_, PSs.nox (pss_cons (ps_if (pt_not (pt_truth (pv 0) (fun _ => rfl))) (pss_one (ps_ret pe_non)) pss_nil)
  (pss_cons (ps_setLc (i := 1) (own := [("point", 5)]) rfl nd rfl rfl (sw_true rfl rfl rfl (by decide +kernel)) (pi_list (pv 0)) (blkOk_by (N := ["points", "told", "least", "greatest", "share", "point"]) (sc := defScope (Hs.top 12)) (by decide +kernel)) (fun _ _ _ _ _ => (pg_name (i := 5) nd rfl (Or.inl rfl))) (fun _ _ _ _ _ => pts_nil) (fun _ _ _ _ _ => (Hs.pe_own O_fraction hr (by first | decide | omega) (by rfl) (pa_cons (pe_ix (r := rIxT K) ix_tup (pv 5) (pe_un un_neg pe_int) (fun _ _ => rfl)) (pa_cons (pe_op op_add (pe_ix (r := rIxT K) ix_tup (pv 5) (pe_un un_neg pe_int) (fun _ _ => rfl)) (pe_ix (r := rIxT K) ix_tup (pv 5) (pe_un un_neg pe_int) (fun _ _ => rfl))) pa_nil)))))
  (pss_cons (ps_asg2 (pe_ix (r := rIxL K) ix_list (pv 1) pe_int (fun _ _ => rfl)) (pg_name (i := 2) nd rfl (.inl rfl)) (pg_name (i := 3) nd rfl (.inl rfl)))
  (pss_cons (ps_for PassesOwn.never rfl (pi_list (pv 1)) (pg_name (i := 4) nd rfl (.inl rfl)) (Evl.pss_cut (ps_if (pt_cmpR op_lt (Hs.pe_own O_order hr (by first | decide | omega) (by rfl) (pa_cons (pv 4) (pa_cons (pv 2) pa_nil))) pe_int (nomark _)) (pss_one (ps_set (i := 2) nd rfl (.inl rfl) (pv 4))) pss_nil)
  (pss_one (ps_if (pt_cmpR op_gt (Hs.pe_own O_order hr (by first | decide | omega) (by rfl) (pa_cons (pv 4) (pa_cons (pv 3) pa_nil))) pe_int (nomark _)) (pss_one (ps_set (i := 3) nd rfl (.inl rfl) (pv 4))) pss_nil))))
  (pss_one (ps_ret (pe_tup (pa_cons (pv 2) (pa_cons (pv 3) pa_nil))))))))), ?_⟩)
  · obtain ⟨l, ps, ws, rfl, _⟩ := h
    rfl
  · obtain ⟨l, ps, ws, rfl, hl, hw, hs, hz, k0, k1⟩ := h
    cases hws : ws with
    | nil =>
      have hps : ps = [] := by
        have := hw.1
        rw [hws] at this
        exact List.length_eq_zero_iff.mp this
      subst hps
      refine q_when (b := true) (et_not (et_tru (ev_var rfl) hl)) (fun _ H1 e1 => ?_) (fun ht => Bool.noConfusion ht)
      exact s_ret ev_c fun H2 e2 => k0 hws _ (e1.trans e2)
    | cons w0 wr =>
      have hne : ws ≠ [] := fun z => by rw [z] at hws; cases hws
      have hpe : (ps.map V.ref).isEmpty = false := by
        cases ps with
        | nil =>
          have := hw.1
          rw [hws] at this
          cases this
        | cons _ _ => rfl
      have kk := k1 hne
      refine q_when (b := false) (et_is (et_not (et_tru (ev_var rfl) hl)) (by rw [hpe]; rfl)) (fun ht => Bool.noConfusion ht) (fun _ H1 e1 => ?_)
      refine q_ev ?_
      refine elu_lcL (K := K) (xs := ps.map V.ref) (us := (ws.map shr).map prV) (ev_var rfl) (ex_l e1 hl) (by rw [List.length_map, hw.1]; omega) (by rw [List.length_map, List.length_map, List.length_map, hw.1]) (fun _ => rfl) (fun i x u H2 e2 hx hu => ?_) H1 (Ex.refl _) _ fun tl ts H2 ntl e2 htl hts => ?_
      · rw [List.getElem?_map] at hx
        obtain ⟨p, hp, rfl⟩ := Option.map_eq_some_iff.mp hx
        rw [List.getElem?_map, List.getElem?_map] at hu
        obtain ⟨s', hs', rfl⟩ := Option.map_eq_some_iff.mp hu
        obtain ⟨v, hv, rfl⟩ := Option.map_eq_some_iff.mp hs'
        have hW := (hw.2 i p v hp hv).ext (e1.trans e2)
        obtain ⟨l2, l3, lb, lp⟩ := hs v (List.mem_of_getElem? hv)
        obtain ⟨a1, a2⟩ := at_neg1 l2
        have bs := (getD_bd lb (v.length - 2)).add (getD_bd lb (v.length - 1))
        have ev1 : ∀ {σ' : L2.St} {H' : Hp}, σ'[5]? = some (some (.ref p)) → Ex H2 H' → Ev (tOp (rIxT K) (tVar 5) (tUn (rU fun i => .int (-i)) (tC (.int 1)))) σ' H' (.int (v.getD (v.length - 1) 0)) := fun h0 e => ev_op (ev_var h0) (ev_un ev_c ru_neg) (rv_ixT (hW.ext e) a1)
        have ev2 : ∀ {σ' : L2.St} {H' : Hp}, σ'[5]? = some (some (.ref p)) → Ex H2 H' → Ev (tOp (rIxT K) (tVar 5) (tUn (rU fun i => .int (-i)) (tC (.int 2)))) σ' H' (.int (v.getD (v.length - 2) 0)) := fun h0 e => ev_op (ev_var h0) (ev_un ev_c ru_neg) (rv_ixT (hW.ext e) a2)
        exact eu_call (ea_cons (ev1 rfl (Ex.refl _)) (ea_cons (ev_op (ev2 rfl (Ex.refl _)) (ev1 rfl (Ex.refl _)) rv_I0) ea_nil)) fun H3 e3 Q' q' E' => ⟨_, _, rfl, lp, (getD_bd lb (v.length - 1)).mono (by omega), bs.mono hn, q'⟩
      · have fp : ∀ s ∈ ws.map shr, Bd (n + 1) s.1 ∧ Bd (n + 1) s.2 := fun s hs' => by
          obtain ⟨v, hv, rfl⟩ := List.mem_map.mp hs'
          exact shr_bd (hs v hv)
        have hxn : ws.map shr ≠ [] := by simp [hne]
        have hx0 : (ws.map shr)[0]? = some ((ws.map shr).getD 0 (0, 1)) := by
          rw [hws]
          rfl
        have hxl : (ws.map shr).length ≤ 1000 := by simp; omega
        obtain ⟨t0, ht0⟩ : ∃ t0, ts[0]? = some t0 := by
          have h0 : 0 < ts.length := by
            rw [hts.1, hws]
            simp
          exact ⟨_, List.getElem?_eq_getElem h0⟩
        unfold leastS greatS at kk
        generalize (ws.map shr).getD 0 (0, 1) = x0 at hx0 kk
        have lemem : ∀ i, (((ws.map shr).take i).foldl leS x0) ∈ ws.map shr := fun i => by
          rcases foldl_mem (f := leS) (fun a b => by unfold leS; split <;> simp) (xs := (ws.map shr).take i) (d := x0) with h | h
          · rw [h]
            exact List.mem_of_getElem? hx0
          · exact List.mem_of_mem_take h
        have grmem : ∀ i, (((ws.map shr).take i).foldl grS x0) ∈ ws.map shr := fun i => by
          rcases foldl_mem (f := grS) (fun a b => by unfold grS; split <;> simp) (xs := (ws.map shr).take i) (d := x0) with h | h
          · rw [h]
            exact List.mem_of_getElem? hx0
          · exact List.mem_of_mem_take h
        generalize ws.map shr = xs at hx0 kk fp lemem grmem hts hxn hxl
        have el := hts.1
        rw [List.length_map] at el
        have h0 : H2 t0 = some (.tup (prV x0)) := hts.2 0 t0 _ ht0 (by rw [List.getElem?_map, hx0]; rfl)
        refine ev_op (z := .ref t0) (r := rIxL K) (ta := tVar 1) (tb := tC (.int 0)) (σ := [some (.ref l), some (.ref tl), none, none, none, none]) (H := H2) (x := .ref tl) (y := .int 0) (ev_var rfl) ev_c (rv_ixL (sq_of htl) (atI_nat (j := 0) (by rw [List.getElem?_map, ht0]; rfl))) H2 (Ex.refl _) _ fun H3 e3 => ?_
        dsimp only [gName, List.set]
        refine q_forLn (K := K) (a := tl) (xs := ts.map V.ref) (ev_var rfl) (sq_of (e3 _ _ htl)) (fun i σ' H' => Ex H3 H' ∧ ∃ (a b : Addr) (v : Option V), σ' = [some (.ref l), some (.ref tl), some (.ref a), some (.ref b), v, none] ∧ H' a = some (.tup (prV ((xs.take i).foldl leS x0))) ∧ H' b = some (.tup (prV ((xs.take i).foldl grS x0)))) ?_ ?_ ?_ ?_
        · intro H4 e4
          exact ⟨e4, t0, t0, none, rfl, e4 _ _ (e3 _ _ h0), e4 _ _ (e3 _ _ h0)⟩
        · rintro i σ' H' _ ⟨e, _⟩
          exact sq_of (e _ _ (e3 _ _ htl))
        · rintro i x σ' H' hx ⟨e, a, b, v, rfl, ha, hb⟩
          rw [List.getElem?_map] at hx
          obtain ⟨t, ht, rfl⟩ := Option.map_eq_some_iff.mp hx
          have hit : i < xs.length := by
            have := (List.getElem?_eq_some_iff.mp ht).1
            omega
          have hxi : xs[i]? = some xs[i] := List.getElem?_eq_getElem hit
          have htT : H2 t = some (.tup (prV xs[i])) := hts.2 i t _ ht (by rw [List.getElem?_map, hxi]; rfl)
          have bt := fp xs[i] (List.getElem_mem hit)
          have ba := fp _ (lemem i)
          have bb := fp _ (grmem i)
          have tk1 : (xs.take (i + 1)).foldl leS x0 = leS ((xs.take i).foldl leS x0) xs[i] := by
            rw [List.take_add_one, hxi, List.foldl_append]
            rfl
          have tk2 : (xs.take (i + 1)).foldl grS x0 = grS ((xs.take i).foldl grS x0) xs[i] := by
            rw [List.take_add_one, hxi, List.foldl_append]
            rfl
          rw [tk1, tk2]
          generalize (xs.take i).foldl leS x0 = A at ha ba ⊢
          generalize (xs.take i).foldl grS x0 = B at hb bb ⊢
          generalize xs[i] = S at htT bt ⊢
          have eo : Ex H2 H' := e3.trans e
          have plS : ∀ {H5 : Hp}, Ex H' H5 → Pl K (n + 1) H5 t S := fun e5 => ⟨st_of (e5 _ _ (eo _ _ htT)), bt⟩
          have evo : ∀ {j : Nat} {c : Addr} {Y : Pt} {σ' : L2.St} {H5 : Hp}, σ'[4]? = some (some (.ref t)) → σ'[j]? = some (some (.ref c)) → Ex H' H5 → H5 c = some (.tup (prV Y)) → (Bd (n + 1) Y.1 ∧ Bd (n + 1) Y.2) → Ev (tCall (spOrd K (n + 1)) [] E0 (tCons (tVar 4) (tCons (tVar j) tNil))) σ' H5 (.int (cmp3 (S.1 * Y.2) (Y.1 * S.2))) := fun h4 hj e5 hc bY => ev_call (ea_cons (ev_var h4) (ea_cons (ev_var hj) ea_nil)) fun H6 e6 Q' q' E' => ⟨t, _, S, _, rfl, (plS e5).ext e6, ⟨st_of (e6 _ _ hc), bY⟩, q'⟩
          refine q_cut (M := fun σ' H5 => Ex H' H5 ∧ ∃ a' : Addr, σ' = [some (.ref l), some (.ref tl), some (.ref a'), some (.ref b), some (.ref t), none] ∧ H5 a' = some (.tup (prV (leS A S)))) ?_ ?_
          · refine s_when (et_test (ev_op (evo (j := 2) rfl rfl (Ex.refl _) ha ba) ev_c rv_I0)) (fun ht H5 e5 => ?_) (fun ht H5 e5 => ?_)
            · have hc : cmp3 (S.1 * A.2) (A.1 * S.2) < 0 := of_decide_eq_true ht
              refine s_asg (ev_var rfl) fun H6 e6 => ⟨e5.trans e6, t, rfl, ?_⟩
              unfold leS
              rw [if_pos hc]
              exact (e5.trans e6) _ _ (eo _ _ htT)
            · have hc : ¬ cmp3 (S.1 * A.2) (A.1 * S.2) < 0 := of_decide_eq_false ht
              refine ⟨e5, a, rfl, ?_⟩
              unfold leS
              rw [if_neg hc]
              exact e5 _ _ ha
          · rintro σ' H5 ⟨e5, a', rfl, ha'⟩
            refine s_when (et_test (ev_op (evo (j := 3) rfl rfl e5 (e5 _ _ hb) bb) ev_c rv_I0)) (fun ht H6 e6 => ?_) (fun ht H6 e6 => ?_)
            · have hc : cmp3 (S.1 * B.2) (B.1 * S.2) > 0 := of_decide_eq_true ht
              refine s_asg (ev_var rfl) fun H7 e7 => ⟨(e.trans e5).trans (e6.trans e7), a', t, some (.ref t), rfl, (e6.trans e7) _ _ ha', ?_⟩
              unfold grS
              rw [if_pos hc]
              exact (e5.trans (e6.trans e7)) _ _ (eo _ _ htT)
            · have hc : ¬ cmp3 (S.1 * B.2) (B.1 * S.2) > 0 := of_decide_eq_false ht
              refine ⟨(e.trans e5).trans e6, a', b, some (.ref t), rfl, e6 _ _ ha', ?_⟩
              unfold grS
              rw [if_neg hc]
              exact (e5.trans e6) _ _ hb
        · rintro σ' H' ⟨e, a, b, v, rfl, ha, hb⟩
          rw [List.length_map, el, List.take_length] at ha hb
          refine s_retU (eu_tup (ea_cons (ev_var rfl) (ea_cons (ev_var rfl) ea_nil)) (by simp)) fun p H5 hp e5 h5 => kk p a b H5 (((e1.trans e2).trans e3).trans (e.trans e5)) h5 (st_of (e5 _ _ ha)) (st_of (e5 _ _ hb))
end
end Hs
namespace Hs
open PySem PySem.Spec PyProof.Rows L2 Evl
/-! ### the shares of a piece, of one place too -/
/-- what is told of the points left: nothing, 0 for a piece of one place, or the ends -/
def metV (x y : Pt) (ws : List (List Int)) : Option (Pt × Pt) := if ws = [] then none else if x = y then some ((0, 1), (0, 1)) else some (leastS (ws.map shr), greatS (ws.map shr))
def RetO (K : PySem.W.Frag) (o : Option (Pt × Pt)) (H : Hp) (Q : VK) : Prop := match o with
  | none => RetV .non H Q
  | some (x, y) => RetP K x y H Q
theorem RetP.go {K : PySem.W.Frag} {x y : Pt} {H H' : Hp} {Q : VK} (k : RetP K x y H Q) (e : Ex H H') : RetP K x y H' Q := fun p a b H2 e2 h1 h2 h3 => k p a b H2 (e.trans e2) h1 h2 h3
theorem RetO.go' {K : PySem.W.Frag} {o : Option (Pt × Pt)} {H H' : Hp} {Q : VK} (k : RetO K o H Q) (e : Ex H H') : RetO K o H' Q := by
  cases o with
  | none => exact fun H2 e2 => k H2 (e.trans e2)
  | some z => exact RetP.go (x := z.1) (y := z.2) k e
def spMet (K : PySem.W.Frag) (m N : Nat) : Sp := fun vs H Q _ => ∃ (p r a b : Addr) (x y : Pt) (c : Nat) (xs ys : List Int), vs = [.ref p, .ref r] ∧ Pc K c H p x y ∧ SqL K H r [.ref a, .ref b] ∧ Ws K H a xs ∧ Ws K H b ys ∧ xs.length = ys.length ∧ xs.length ≤ 6 ∧ BdL m xs ∧ BdL m ys ∧ RetO K (metV x y (cutAll unit2 (rows2 xs ys))) H Q
theorem dp_pt {K : PySem.W.Frag} {H : Hp} {p : Addr} {x : Pt} (h : SqT K H p (prV x)) : Dp K H (.ref p) (PySem.W.Datum.toD x) := .tup h (.cons (.int _) (.cons (.int _) .nil))
theorem ev_eqPt {K : PySem.W.Frag} {σ : L2.St} {H : Hp} {tx ty : TE} {p q : Addr} {x y : Pt} (hx : Ev tx σ H (.ref p)) (hy : Ev ty σ H (.ref q)) (px : SqT K H p (prV x)) (qy : SqT K H q (prV y)) : Ev (tOp (rEqD K) tx ty) σ H (.bl (decide (x = y))) := fun H1 e Q k =>
  hx H1 e _ fun H2 e2 => hy H2 (e.trans e2) _ fun H3 e3 => ⟨_, _, dp_pt (ex_t ((e.trans e2).trans e3) px), dp_pt (ex_t ((e.trans e2).trans e3) qy), rfl, rfl, by rw [PySem.W.Datum.eqv]; exact k H3 (e2.trans e3)⟩
theorem sh2 {n : Nat} {w : List Int} (h : Wt 2 w) (hb : BdL n w) : ShW n w := by
  obtain ⟨w0, w1, rfl, h0, h1, hk⟩ := wt2 h
  exact ⟨by simp, by simp, hb, hk⟩
theorem unit2_pts : Pts' 2 1 unit2 := by
  intro w hw
  have : w = [1, 0] ∨ w = [0, 1] := by simpa [unit2] using hw
  rcases this with rfl | rfl
  · refine ⟨⟨rfl, by decide, by decide⟩, fun x hx => ?_⟩
    have : x = 1 ∨ x = 0 := by simpa using hx
    rcases this with rfl | rfl <;> (unfold Bd; decide)
  · refine ⟨⟨rfl, by decide, by decide⟩, fun x hx => ?_⟩
    have : x = 0 ∨ x = 1 := by simpa using hx
    rcases this with rfl | rfl <;> (unfold Bd; decide)
section
variable {P : Program} {w : World} {K : PySem.W.Frag} {mg : Str → Option Value} {base : Heap} {f : Addr} {fd : FuncData} {n m N : Nat}
abbrev sMet : Stmt := top 23
theorem scMet : FnScope ["piece", "rows", "met"] ["piece", "rows"] (defScope sMet) := ⟨rfl, rfl, rfl, by decide +kernel, rfl, by decide +kernel, by decide +kernel⟩
theorem ok_met (F : FnP K "met_shares" sMet f fd) (O_cut_down : Own P w K mg base 4 "cut_down" ["points", "rows"] (spDown K m N)) (O_end_shares : Own P w K mg base 3 "end_shares" ["points"] (spEnds K (bq m 6))) : FnOk P w K mg base CX0 5 f fd ["piece", "rows"] (spMet K m N) := by
  have nd := scMet.nd
  refine F.ok scMet (fun vs H Q E h => ?_) (fun cdv A outer s H vs Q E hr h => ⟨_, PSs.nox (pss_cons (ps_set (i := 2) nd rfl (.inl rfl) (Hs.pe_own O_cut_down hr (by first | decide | omega) (by rfl) (pa_cons (pe_lst (pa_cons (pe_tup (pa_cons pe_int (pa_cons pe_int pa_nil))) (pa_cons (pe_tup (pa_cons pe_int (pa_cons pe_int pa_nil))) pa_nil))) (pa_cons (pv 1) pa_nil))))
  (pss_cons (ps_if (PW.pt (pw_and (pt_truth (pv 2) (fun _ => rfl)) (pw_and1 (pt_cmpR (op_eqD hr.units) (pe_ix (r := rIxT K) ix_tup (pv 0) pe_int (fun _ _ => rfl)) (pe_ix (r := rIxT K) ix_tup (pv 0) pe_int (fun _ _ => rfl)) (nomark _))))) (pss_one (ps_ret (pe_tup (pa_cons (pe_tup (pa_cons pe_int (pa_cons pe_int pa_nil))) (pa_cons (pe_tup (pa_cons pe_int (pa_cons pe_int pa_nil))) pa_nil))))) pss_nil)
  (pss_one (ps_ret (Hs.pe_own O_end_shares hr (by first | decide | omega) (by rfl) (pa_cons (pv 2) pa_nil)))))), ?_⟩)
  · obtain ⟨p, r, a, b, x, y, c, xs, ys, rfl, _⟩ := h
    rfl
  · obtain ⟨p, r, a, b, x, y, c, xs, ys, rfl, ⟨pa, pb, hp, hx, hy⟩, hr', ha, hb, hl, h6, bx, by', ret⟩ := h
    -- the corners
    refine ⟨sz_of (by simp), fun t1 ht1 => ⟨sz_of (by simp), fun t2 ht2 => ⟨sz_of (by simp), fun tl htl => ?_⟩⟩⟩
    have e1 := Ex.new (o := .tup [V.int 1, .int 0]) ht1
    have e2 := Ex.new (o := .tup [V.int 0, .int 1]) ht2
    have e3 := Ex.new (o := .lst [V.ref t1, .ref t2]) htl
    have e03 := (e1.trans e2).trans e3
    refine ⟨_, rfl, tl, r, a, b, [t1, t2], unit2, xs, ys, rfl, sq_of upd_same, ⟨rfl, fun i q w hq hw => ?_⟩, unit2_pts, by decide, ex_l e03 hr', ha.ext e03, hb.ext e03, hl, h6, bx, by', fun mt ps H1 eM hmt hps => ?_⟩
    · match i, hq, hw with
      | 0, hq, hw => cases hq; cases hw; exact st_of (e3 _ _ (e2 _ _ upd_same))
      | 1, hq, hw => cases hq; cases hw; exact st_of (e3 _ _ upd_same)
      | i + 2, hq, hw => cases hq
    · have eH := e03.trans eM
      have hrl := rows2_length hl
      obtain ⟨pts, plen⟩ := cutAll_pts unit2_pts (rows2_bd bx by') (by decide) (rows2 xs ys).length (Nat.le_refl _)
      rw [List.take_length] at pts plen
      have pts6 : Pts' 2 (bq m 6) (cutAll unit2 (rows2 xs ys)) := fun w hw => ⟨(pts w hw).1, fun z hz => ((pts w hw).2 z hz).mono (bq_mono (by omega))⟩
      have plen6 : (cutAll unit2 (rows2 xs ys)).length ≤ 1000 := by
        have : 2 ^ (rows2 xs ys).length ≤ 2 ^ 6 := Nat.pow_le_pow_right (by decide) (by omega)
        have : 2 ^ (rows2 xs ys).length * unit2.length ≤ 2 ^ 6 * 2 := Nat.mul_le_mul this (by decide)
        omega
      unfold metV at ret
      generalize cutAll unit2 (rows2 xs ys) = ws at *
      dsimp only [gName, List.set]
      have emp : (ps.map V.ref).isEmpty = decide (ws = []) := by
        have := hps.1
        cases ps with
        | nil =>
          have : ws = [] := List.length_eq_zero_iff.mp this.symm
          subst this
          rfl
        | cons q qs =>
          have : ws ≠ [] := fun z => by
            rw [z] at this
            cases this
          rw [decide_eq_false this]
          rfl
      refine q_when (b := !decide (ws = []) && decide (x = y)) (et_and (et_is (et_tru (ev_var rfl) hmt) (by rw [emp])) fun _ => et_test (ev_eqPt (ev_ixt (xs := [.ref pa, .ref pb]) rfl (ex_t eH hp) rfl) (ev_ixt (xs := [.ref pa, .ref pb]) rfl (ex_t eH hp) rfl) (hx.ext eH).1 (hy.ext eH).1)) (fun ht H2 f2 => ?_) (fun ht H2 f2 => ?_)
      · rw [Bool.and_eq_true] at ht
        have h1 : ws ≠ [] := fun z => by
          rw [z] at ht
          exact Bool.noConfusion ht.1
        rw [if_neg h1, if_pos (of_decide_eq_true ht.2)] at ret
        refine ⟨sz_of (by simp), fun u1 hu1 => ⟨sz_of (by simp), fun u2 hu2 => ⟨sz_of (by simp), fun u3 hu3 => ?_⟩⟩⟩
        have g1 := Ex.new (o := .tup [V.int 0, .int 1]) hu1
        have g2 := Ex.new (o := .tup [V.int 0, .int 1]) hu2
        have g3 := Ex.new (o := .tup [V.ref u1, .ref u2]) hu3
        exact ret u3 u1 u2 _ (((eH.trans f2).trans g1).trans (g2.trans g3)) upd_same (st_of ((g2.trans g3) _ _ upd_same)) (st_of (g3 _ _ upd_same))
      · refine ⟨_, rfl, mt, ps, ws, rfl, ex_l f2 hmt, hps.ext f2, fun w hw => sh2 (pts6 w hw).1 (pts6 w hw).2, plen6, fun h0 => ?_, fun h0 => ?_⟩
        · rw [if_pos h0] at ret
          exact fun H3 e3 => ret H3 ((eH.trans f2).trans e3)
        · rw [decide_eq_false h0, Bool.not_false, Bool.true_and] at ht
          rw [if_neg h0, if_neg (of_decide_eq_false ht)] at ret
          exact RetP.go ret (eH.trans f2)
theorem cross_bd {n : Nat} {a b c : Pt} (ha : Bd n a.1 ∧ Bd n a.2) (hb : Bd n b.1 ∧ Bd n b.2) (hc : Bd n c.1 ∧ Bd n c.2) : Bd (2 * n + 3) (cross a b c) := by
  have := ((hb.1.sub ha.1).mul (hc.2.sub ha.2)).sub ((hb.2.sub ha.2).mul (hc.1.sub ha.1))
  exact this.mono (by omega)
theorem hts_bd {n : Nat} {b : Blk} {x : Pt} (hb : BdB n b) (hx : Bd n x.1 ∧ Bd n x.2) : BdL (n + 1) (hts b x) := by
  intro z hz
  simp only [hts, List.mem_cons, List.not_mem_nil, or_false] at hz
  obtain ⟨h1, h2, h3, h4⟩ := hb
  rcases hz with rfl | rfl | rfl | rfl
  · exact hx.1.sub h1
  · exact h3.sub hx.1
  · exact hx.2.sub h2
  · exact h4.sub hx.2
theorem phts_bd {n : Nat} {a b x : Pt} (ha : Bd n a.1 ∧ Bd n a.2) (hb : Bd n b.1 ∧ Bd n b.2) (hx : Bd n x.1 ∧ Bd n x.2) : BdL (2 * n + 3) (phts a b x) := by
  intro z hz
  have hc := cross_bd ha hb hx
  rcases List.mem_cons.mp hz with rfl | hz
  · exact hc
  · rcases List.mem_cons.mp hz with rfl | hz
    · exact hc.neg
    · exact (hts_bd (box_bd ha hb) hx z hz).mono (by omega)
end
end Hs
namespace Hs
open PySem PySem.Spec PyProof.Rows L2 Evl
section
variable {P : Program} {w : World} {K : PySem.W.Frag} {mg : Str → Option Value} {base : Heap} {f : Addr} {fd : FuncData} {n m N : Nat}
def spPsh (K : PySem.W.Frag) (n m : Nat) : Sp := fun vs H Q _ => ∃ (q p : Addr) (c d a b : Pt), vs = [.ref q, .ref p] ∧ Pc K n H q c d ∧ Pc K n H p a b ∧ RetO K (metV a b (cutAll unit2 (rows2 (phts c d a) (phts c d b)))) H Q
abbrev sPsh : Stmt := top 24
theorem scPsh : FnScope ["other", "piece", "place"] ["other", "piece"] (defScope sPsh) := ⟨rfl, rfl, rfl, by decide +kernel, rfl, by decide +kernel, by decide +kernel⟩
theorem ok_psh (F : FnP K "piece_shares" sPsh f fd) (O_met_shares : Own P w K mg base 5 "met_shares" ["piece", "rows"] (spMet K m N)) (O_piece_heights : Own P w K mg base 2 "piece_heights" ["piece", "place"] (spPhts K n)) (hm : 2 * n + 3 ≤ m) : FnOk P w K mg base CX0 6 f fd ["other", "piece"] (spPsh K n m) := by
  have nd := scPsh.nd
  refine F.ok scPsh (fun vs H Q E h => ?_) (fun cdv A outer s H vs Q E hr h => ⟨_, PSs.nox (pss_one (ps_ret (Hs.pe_own O_met_shares hr (by first | decide | omega) (by rfl) (pa_cons (pv 1) (pa_cons (pe_lc (own := [("place", 2)]) rfl nd (pi_tup (pv 1)) (blkOk_by (N := ["other", "piece", "place"]) (sc := defScope (Hs.top 24)) (by decide +kernel)) (fun _ _ _ _ _ => (pg_name (i := 2) nd rfl (Or.inl rfl))) (fun _ _ _ _ _ => pts_nil) (fun _ _ _ _ _ => (Hs.pe_own O_piece_heights hr (by first | decide | omega) (by rfl) (pa_cons (pv 0) (pa_cons (pv 2) pa_nil))))) pa_nil))))), ?_⟩)
  · obtain ⟨q, p, c, d, a, b, rfl, _⟩ := h
    rfl
  · obtain ⟨q, p, c, d, a, b, rfl, hq, hp, ret⟩ := h
    obtain ⟨pa, pb, hpp, ha, hb⟩ := id hp
    refine ⟨_, rfl, ?_⟩
    refine elu_lcT (K := K) (xs := [.ref pa, .ref pb]) (us := [(phts c d a).map V.int, (phts c d b).map V.int]) (σ := [some (.ref q), some (.ref p), none]) (ev_var rfl) hpp (by simp) rfl (fun _ => rfl) (fun i x u H1 e1 hx hu => ?_) H (Ex.refl _) _ fun tl ts H1 ntl e1 htl hts => ?_
    · match i, hx, hu with
      | 0, hx, hu => cases hx; cases hu; exact eu_call (ea_cons (ev_var rfl) (ea_cons (ev_var rfl) ea_nil)) fun H2 e2 Q' q' E' => ⟨q, pa, c, d, a, rfl, hq.ext (e1.trans e2), ha.ext (e1.trans e2), q'⟩
      | 1, hx, hu => cases hx; cases hu; exact eu_call (ea_cons (ev_var rfl) (ea_cons (ev_var rfl) ea_nil)) fun H2 e2 Q' q' E' => ⟨q, pb, c, d, b, rfl, hq.ext (e1.trans e2), hb.ext (e1.trans e2), q'⟩
      | i + 2, hx, hu => cases hx
    · obtain ⟨t1, t2, rfl⟩ : ∃ t1 t2, ts = [t1, t2] := match ts, hts.1 with
        | [t1, t2], _ => ⟨t1, t2, rfl⟩
      obtain ⟨qc, qd, _, hc, hd⟩ := hq
      exact ⟨p, tl, t1, t2, a, b, n, _, _, rfl, hp.ext e1, sq_of htl, st_of (hts.2 0 t1 _ rfl rfl), st_of (hts.2 1 t2 _ rfl rfl), rfl, by show 6 ≤ 6; decide, fun z hz => (phts_bd hc.2 hd.2 ha.2 z hz).mono hm, fun z hz => (phts_bd hc.2 hd.2 hb.2 z hz).mono hm, ret.go' e1⟩
end
end Hs
namespace Hs
open PySem PySem.Spec PyProof.Rows L2 Evl
/-! ### whether figures meet -/
section
variable {P : Program} {w : World} {K : PySem.W.Frag} {mg : Str → Option Value} {base : Heap} {f : Addr} {fd : FuncData} {n : Nat}
def spBlm (K : PySem.W.Frag) (n : Nat) : Sp := fun vs H Q _ => ∃ (p q : Addr) (x y : Blk), vs = [.ref p, .ref q] ∧ Bl K n H p x ∧ Bl K n H q y ∧ RetV (.bl (decide (BoxM x y))) H Q
abbrev sBlm : Stmt := top 19
theorem scBlm : FnScope ["one", "other"] ["one", "other"] (defScope sBlm) := ⟨rfl, rfl, rfl, by decide +kernel, rfl, by decide +kernel, by decide +kernel⟩
theorem ok_blm (F : FnP K "blocks_meet" sBlm f fd) : FnOk P w K mg base CX0 1 f fd ["one", "other"] (spBlm K n) := by
  have nd := scBlm.nd
  refine F.ok scBlm (fun vs H Q E h => ?_) (fun cdv A outer s H vs Q E hr h => ⟨_, PSs.nox (pss_one (ps_ret (pe_and (pe_cmpR op_le (pe_ix (r := rIxT K) ix_tup (pv 0) pe_int (fun _ _ => rfl)) (pe_ix (r := rIxT K) ix_tup (pv 1) pe_int (fun _ _ => rfl)) (nomark _)) (pe_and (pe_cmpR op_le (pe_ix (r := rIxT K) ix_tup (pv 1) pe_int (fun _ _ => rfl)) (pe_ix (r := rIxT K) ix_tup (pv 0) pe_int (fun _ _ => rfl)) (nomark _)) (pe_and (pe_cmpR op_le (pe_ix (r := rIxT K) ix_tup (pv 0) pe_int (fun _ _ => rfl)) (pe_ix (r := rIxT K) ix_tup (pv 1) pe_int (fun _ _ => rfl)) (nomark _)) (pe_one (pe_cmpR op_le (pe_ix (r := rIxT K) ix_tup (pv 1) pe_int (fun _ _ => rfl)) (pe_ix (r := rIxT K) ix_tup (pv 0) pe_int (fun _ _ => rfl)) (nomark _)))))))), ?_⟩)
  · obtain ⟨p, q, x, y, rfl, _⟩ := h
    rfl
  · obtain ⟨p, q, x, y, rfl, hx, hy, k⟩ := h
    refine s_ret (ev_is (ev_andV (ev_op (ev_ixt rfl hx.1 rfl) (ev_ixt rfl hy.1 rfl) rv_I0) fun _ => ev_andV (ev_op (ev_ixt rfl hy.1 rfl) (ev_ixt rfl hx.1 rfl) rv_I0) fun _ => ev_andV (ev_op (ev_ixt rfl hx.1 rfl) (ev_ixt rfl hy.1 rfl) rv_I0) fun _ => ev_op (ev_ixt rfl hy.1 rfl) (ev_ixt rfl hx.1 rfl) rv_I0) ?_) fun H1 e1 => k _ e1
    congr 1
    rw [Bool.eq_iff_iff]
    simp only [Bool.and_eq_true, decide_eq_true_eq]
    exact Iff.rfl
/-- places that stand, in a row -/
def PlL (K : PySem.W.Frag) (n : Nat) (H : Hp) (ps : List Addr) (xs : List Pt) : Prop := ps.length = xs.length ∧ ∀ (i : Nat) (p : Addr) (x : Pt), ps[i]? = some p → xs[i]? = some x → Pl K n H p x
def spBesT (K : PySem.W.Frag) (n : Nat) : Sp := fun vs H Q _ => ∃ (p q : Addr) (a b : Pt) (ps : List Addr) (xs : List Pt), vs = [.ref p, .ref q] ∧ Pc K n H p a b ∧ SqT K H q (ps.map V.ref) ∧ PlL K n H ps xs ∧ 0 < xs.length ∧ xs.length ≤ 100 ∧ RetV (.bl (decide (Bes a b xs))) H Q
def spBesL (K : PySem.W.Frag) (n : Nat) : Sp := fun vs H Q _ => ∃ (p q : Addr) (a b : Pt) (ps : List Addr) (xs : List Pt), vs = [.ref p, .ref q] ∧ Pc K n H p a b ∧ SqL K H q (ps.map V.ref) ∧ PlL K n H ps xs ∧ 0 < xs.length ∧ xs.length ≤ 100 ∧ RetV (.bl (decide (Bes a b xs))) H Q
theorem ev_minL {σ : L2.St} {H : Hp} {ta : TE} {p : Addr} {ns : List Int} (ha : Ev ta σ H (.ref p)) (h : SqL K H p (ns.map V.int)) (hn : 0 < ns.length) : ∃ m, m ∈ ns ∧ (∀ y ∈ ns, m ≤ y) ∧ Ev (tCB (rMin K) (tCons ta tNil)) σ H (.int m) := by
  cases ns with
  | nil => cases hn
  | cons x xs =>
    obtain ⟨m1, m2⟩ := minOf_mem xs x
    refine ⟨_, m1, m2, fun H1 e Q q => ha H1 e _ fun H2 e2 => ⟨p, _, rfl, ex_l (e.trans e2) h, hn, fun m h1 h2 => ?_⟩⟩
    have e : m = PySem.W.minOf x xs := Int.le_antisymm (h2 _ m1) (m2 _ h1)
    rw [e]
    exact q H2 e2
theorem ev_maxL {σ : L2.St} {H : Hp} {ta : TE} {p : Addr} {ns : List Int} (ha : Ev ta σ H (.ref p)) (h : SqL K H p (ns.map V.int)) (hn : 0 < ns.length) : ∃ m, m ∈ ns ∧ (∀ y ∈ ns, y ≤ m) ∧ Ev (tCB (rMax K) (tCons ta tNil)) σ H (.int m) := by
  obtain ⟨m, m1, m2⟩ : ∃ m, m ∈ ns ∧ ∀ y ∈ ns, y ≤ m := by
    clear h ha
    induction ns with
    | nil => cases hn
    | cons x xs ih =>
      by_cases hx : xs = []
      · subst hx
        exact ⟨x, by simp, by simp⟩
      · obtain ⟨m, m1, m2⟩ := ih (by cases xs <;> simp_all)
        by_cases hm : x ≤ m
        · refine ⟨m, List.mem_cons_of_mem _ m1, fun y hy => ?_⟩
          rcases List.mem_cons.mp hy with rfl | hy
          · exact hm
          · exact m2 y hy
        · refine ⟨x, List.mem_cons_self .., fun y hy => ?_⟩
          rcases List.mem_cons.mp hy with rfl | hy
          · exact Int.le_refl _
          · have := m2 y hy
            omega
  refine ⟨m, m1, m2, fun H1 e Q q => ha H1 e _ fun H2 e2 => ⟨p, _, rfl, ex_l (e.trans e2) h, hn, fun k h1 h2 => ?_⟩⟩
  have e : k = m := Int.le_antisymm (m2 _ h1) (h2 _ m1)
  rw [e]
  exact q H2 e2
theorem sgn_pos {i : Int} : 0 < sgn i ↔ 0 < i := by
  unfold sgn
  split
  · simp_all
  · split <;> omega
theorem sgn_neg' {i : Int} : sgn i < 0 ↔ i < 0 := by
  unfold sgn
  split
  · omega
  · split <;> omega
theorem bes_min {a b : Pt} {xs : List Pt} {m M : Int} (h1 : m ∈ xs.map fun x => sgn (cross a b x)) (h2 : ∀ y ∈ xs.map (fun x => sgn (cross a b x)), m ≤ y) (h3 : M ∈ xs.map fun x => sgn (cross a b x)) (h4 : ∀ y ∈ xs.map (fun x => sgn (cross a b x)), y ≤ M) : (decide (m > 0) || decide (M < 0)) = decide (Bes a b xs) := by
  rw [Bool.eq_iff_iff]
  simp only [Bool.or_eq_true, decide_eq_true_eq]
  unfold Bes
  obtain ⟨u, hu, e1⟩ := List.mem_map.mp h1
  obtain ⟨v, hv, e2⟩ := List.mem_map.mp h3
  constructor
  · rintro (h | h)
    · refine .inl fun x hx => sgn_pos.mp ?_
      have := h2 _ (List.mem_map.mpr ⟨x, hx, rfl⟩)
      omega
    · refine .inr fun x hx => sgn_neg'.mp ?_
      have := h4 _ (List.mem_map.mpr ⟨x, hx, rfl⟩)
      omega
  · rintro (h | h)
    · refine .inl ?_
      rw [← e1]
      exact sgn_pos.mpr (h u hu)
    · refine .inr ?_
      rw [← e2]
      exact sgn_neg'.mpr (h v hv)
abbrev sBes : Stmt := top 20
theorem scBes : FnScope ["piece", "places", "sides", "place"] ["piece", "places"] (defScope sBes) := ⟨rfl, rfl, rfl, by decide +kernel, rfl, by decide +kernel, by decide +kernel⟩
theorem given_pl {n' : Nat} {H : Hp} {ps : List Addr} {xs : List Pt} {g : Pt → Int} (h : ps.length = xs.length) : given (ps.map V.ref).length (fun _ => true) (fun k => V.int (g (xs.getD k (0, 0)))) = (xs.map g).map V.int := by
  rw [List.length_map, h]
  refine given_ints (f := fun k => g (xs.getD k (0, 0))) (by simp) fun k x hx => ?_
  rw [List.getElem?_map] at hx
  obtain ⟨y, h1, h2⟩ := Option.map_eq_some_iff.mp hx
  rw [List.getD_eq_getElem?_getD, h1, ← h2]
  rfl
theorem ok_besT (F : FnP K "beside" sBes f fd) (O_side : Own P w K mg base 2 "side" ["one", "other", "place"] (spSide K n)) (g_min : mg "min" = none) (g_max : mg "max" = none) : FnOk P w K mg base CX0 3 f fd ["piece", "places"] (spBesT K n) := by
  have nd := scBes.nd
  refine F.ok scBes (fun vs H Q E h => ?_) (fun cdv A outer s H vs Q E hr h => ⟨_, PSs.nox (pss_cons (ps_setLc (i := 2) (own := [("place", 3)]) rfl nd rfl rfl (sw_true rfl rfl rfl (by decide +kernel)) (pi_tup (pv 1)) (blkOk_by (N := ["piece", "places", "sides", "place"]) (sc := defScope (Hs.top 20)) (by decide +kernel)) (fun _ _ _ _ _ => (pg_name (i := 3) nd rfl (Or.inl rfl))) (fun _ _ _ _ _ => pts_nil) (fun _ _ _ _ _ => (Hs.pe_own O_side hr (by first | decide | omega) (by rfl) (pa_cons (pe_ix (r := rIxT K) ix_tup (pv 0) pe_int (fun _ _ => rfl)) (pa_cons (pe_ix (r := rIxT K) ix_tup (pv 0) pe_int (fun _ _ => rfl)) (pa_cons (pv 3) pa_nil))))))
  (pss_one (ps_ret (pe_or (pe_cmpR op_gt (pe_callB (r := rMin K) (cr_min rfl) (by rfl) g_min (by decide +kernel) (pa_cons (pv 2) pa_nil)) pe_int (nomark _)) (pe_one (pe_cmpR op_lt (pe_callB (r := rMax K) (cr_max rfl) (by rfl) g_max (by decide +kernel) (pa_cons (pv 2) pa_nil)) pe_int (nomark _))))))), ?_⟩)
  · obtain ⟨p, q, a, b, ps, xs, rfl, _⟩ := h
    rfl
  · obtain ⟨p, q, a, b, ps, xs, rfl, ⟨pa, pb, hp, ha, hb⟩, hq, hP, h0, h1, k⟩ := h
    refine q_asgL (xs := (xs.map fun x => sgn (cross a b x)).map V.int) ?_ fun t H1 nt e1 ht => ?_
    · rw [← given_pl (n' := 0) (H := H) (ps := ps) hP.1]
      refine el_lcT' (K := K) (xs := ps.map V.ref) _ (ev_var rfl) hq (by rw [List.length_map, hP.1]; omega) (fun _ => rfl) (fun i x H1 e1 hx => ?_)
      rw [List.getElem?_map] at hx
      obtain ⟨r, hr', rfl⟩ := Option.map_eq_some_iff.mp hx
      have hix : i < xs.length := by
        have := (List.getElem?_eq_some_iff.mp hr').1
        have := hP.1
        omega
      have hxi : xs[i]? = some xs[i] := List.getElem?_eq_getElem hix
      have hpl := (hP.2 i r _ hr' hxi).ext e1
      have eg : xs.getD i (0, 0) = xs[i] := by
        rw [List.getD_eq_getElem?_getD, hxi]
        rfl
      rw [eg]
      exact ev_call (ea_cons (ev_ixt (xs := [.ref pa, .ref pb]) rfl (ex_t e1 hp) rfl) (ea_cons (ev_ixt (xs := [.ref pa, .ref pb]) rfl (ex_t e1 hp) rfl) (ea_cons (ev_var rfl) ea_nil))) fun H2 e2 Q' q' E' => ⟨pa, pb, r, a, b, _, rfl, (ha.ext e1).ext e2, (hb.ext e1).ext e2, hpl.ext e2, q'⟩
    · obtain ⟨m, m1, m2, em⟩ := ev_minL (K := K) (σ := [some (.ref p), some (.ref q), some (.ref t), none]) (ta := tVar 2) (ev_var rfl) (sq_of ht) (by simpa using h0)
      obtain ⟨M, M1, M2, eM⟩ := ev_maxL (K := K) (σ := [some (.ref p), some (.ref q), some (.ref t), none]) (ta := tVar 2) (ev_var rfl) (sq_of ht) (by simpa using h0)
      exact s_ret (ev_is (ev_orV (ev_op em ev_c rv_I0) fun _ => ev_op eM ev_c rv_I0) (by rw [bes_min m1 m2 M1 M2])) fun H2 e2 => k _ (e1.trans e2)
theorem ok_besL (F : FnP K "beside" sBes f fd) (O_side : Own P w K mg base 2 "side" ["one", "other", "place"] (spSide K n)) (g_min : mg "min" = none) (g_max : mg "max" = none) : FnOk P w K mg base CX0 3 f fd ["piece", "places"] (spBesL K n) := by
  have nd := scBes.nd
  refine F.ok scBes (fun vs H Q E h => ?_) (fun cdv A outer s H vs Q E hr h => ⟨_, PSs.nox (pss_cons (ps_setLc (i := 2) (own := [("place", 3)]) rfl nd rfl rfl (sw_true rfl rfl rfl (by decide +kernel)) (pi_list (pv 1)) (blkOk_by (N := ["piece", "places", "sides", "place"]) (sc := defScope (Hs.top 20)) (by decide +kernel)) (fun _ _ _ _ _ => (pg_name (i := 3) nd rfl (Or.inl rfl))) (fun _ _ _ _ _ => pts_nil) (fun _ _ _ _ _ => (Hs.pe_own O_side hr (by first | decide | omega) (by rfl) (pa_cons (pe_ix (r := rIxT K) ix_tup (pv 0) pe_int (fun _ _ => rfl)) (pa_cons (pe_ix (r := rIxT K) ix_tup (pv 0) pe_int (fun _ _ => rfl)) (pa_cons (pv 3) pa_nil))))))
  (pss_one (ps_ret (pe_or (pe_cmpR op_gt (pe_callB (r := rMin K) (cr_min rfl) (by rfl) g_min (by decide +kernel) (pa_cons (pv 2) pa_nil)) pe_int (nomark _)) (pe_one (pe_cmpR op_lt (pe_callB (r := rMax K) (cr_max rfl) (by rfl) g_max (by decide +kernel) (pa_cons (pv 2) pa_nil)) pe_int (nomark _))))))), ?_⟩)
  · obtain ⟨p, q, a, b, ps, xs, rfl, _⟩ := h
    rfl
  · obtain ⟨p, q, a, b, ps, xs, rfl, ⟨pa, pb, hp, ha, hb⟩, hq, hP, h0, h1, k⟩ := h
    refine q_asgL (xs := (xs.map fun x => sgn (cross a b x)).map V.int) ?_ fun t H1 nt e1 ht => ?_
    · rw [← given_pl (n' := 0) (H := H) (ps := ps) hP.1]
      refine el_lcL' (K := K) (xs := ps.map V.ref) _ (ev_var rfl) hq (by rw [List.length_map, hP.1]; omega) (fun _ => rfl) (fun i x H1 e1 hx => ?_)
      rw [List.getElem?_map] at hx
      obtain ⟨r, hr', rfl⟩ := Option.map_eq_some_iff.mp hx
      have hix : i < xs.length := by
        have := (List.getElem?_eq_some_iff.mp hr').1
        have := hP.1
        omega
      have hxi : xs[i]? = some xs[i] := List.getElem?_eq_getElem hix
      have hpl := (hP.2 i r _ hr' hxi).ext e1
      have eg : xs.getD i (0, 0) = xs[i] := by
        rw [List.getD_eq_getElem?_getD, hxi]
        rfl
      rw [eg]
      exact ev_call (ea_cons (ev_ixt (xs := [.ref pa, .ref pb]) rfl (ex_t e1 hp) rfl) (ea_cons (ev_ixt (xs := [.ref pa, .ref pb]) rfl (ex_t e1 hp) rfl) (ea_cons (ev_var rfl) ea_nil))) fun H2 e2 Q' q' E' => ⟨pa, pb, r, a, b, _, rfl, (ha.ext e1).ext e2, (hb.ext e1).ext e2, hpl.ext e2, q'⟩
    · obtain ⟨m, m1, m2, em⟩ := ev_minL (K := K) (σ := [some (.ref p), some (.ref q), some (.ref t), none]) (ta := tVar 2) (ev_var rfl) (sq_of ht) (by simpa using h0)
      obtain ⟨M, M1, M2, eM⟩ := ev_maxL (K := K) (σ := [some (.ref p), some (.ref q), some (.ref t), none]) (ta := tVar 2) (ev_var rfl) (sq_of ht) (by simpa using h0)
      exact s_ret (ev_is (ev_orV (ev_op em ev_c rv_I0) fun _ => ev_op eM ev_c rv_I0) (by rw [bes_min m1 m2 M1 M2])) fun H2 e2 => k _ (e1.trans e2)
theorem Pc.bdL {H : Hp} {p : Addr} {a b : Pt} (h : Pc K n H p a b) : BdB n (boxOf a b) := by
  obtain ⟨x, y, _, h1, h2⟩ := h
  exact box_bd h1.2 h2.2
theorem Pc.pll {H : Hp} {p : Addr} {a b : Pt} (h : Pc K n H p a b) : ∃ ps, SqT K H p (ps.map V.ref) ∧ PlL K n H ps [a, b] := by
  obtain ⟨x, y, h0, h1, h2⟩ := h
  refine ⟨[x, y], h0, rfl, fun i q z hq hz => ?_⟩
  match i, hq, hz with
  | 0, hq, hz => cases hq; cases hz; exact h1
  | 1, hq, hz => cases hq; cases hz; exact h2
  | i + 2, hq, hz => cases hq
theorem PlL.ext {H H' : Hp} {ps : List Addr} {xs : List Pt} (h : PlL K n H ps xs) (e : Ex H H') : PlL K n H' ps xs := ⟨h.1, fun i p x hp hx => (h.2 i p x hp hx).ext e⟩
/-- a test by a call whose one argument makes a block, and another -/
theorem ev_blm {σ : L2.St} {H : Hp} {t1 t2 : TE} {x y : Blk} {E : XK} (h1 : EvU t1 σ H (blV x)) (h2 : EvU t2 σ H (blV y)) (bx : BdB n x) (by' : BdB n y) : Ev (tCall (spBlm K n) [] E (tCons t1 (tCons t2 tNil))) σ H (.bl (decide (BoxM x y))) := fun H1 e Q q =>
  h1 H1 e _ fun p H2 np e2 hp => h2 H2 (e.trans e2) _ fun r H3 nr e3 hr => ⟨p, r, x, y, rfl, ⟨st_of (e3 _ _ hp), bx⟩, ⟨st_of hr, by'⟩, fun H4 e4 => q H4 ((e2.trans e3).trans e4)⟩
theorem eu_box {σ : L2.St} {H : Hp} {i : Nat} {p : Addr} {a b : Pt} {E : XK} (h : σ[i]? = some (some (.ref p))) (hp : Pc K n H p a b) : EvU (tCall (spBox K n) [] E (tCons (tVar i) tNil)) σ H (blV (boxOf a b)) := eu_call (ea_cons (ev_var h) ea_nil) fun H1 e1 Q q E => ⟨p, a, b, rfl, hp.ext e1, q⟩
end
end Hs
namespace Hs
open PySem PySem.Spec PyProof.Rows L2 Evl
section
variable {P : Program} {w : World} {K : PySem.W.Frag} {mg : Str → Option Value} {base : Heap} {f : Addr} {fd : FuncData} {n : Nat}
def spPm (K : PySem.W.Frag) (n : Nat) : Sp := fun vs H Q _ => ∃ (p q : Addr) (a b c d : Pt), vs = [.ref p, .ref q] ∧ Pc K n H p a b ∧ Pc K n H q c d ∧ RetV (.bl (decide (Sat a b c d))) H Q
abbrev sPm : Stmt := top 21
theorem scPm : FnScope ["one", "other"] ["one", "other"] (defScope sPm) := ⟨rfl, rfl, rfl, by decide +kernel, rfl, by decide +kernel, by decide +kernel⟩
end
end Hs
namespace Hs
open PySem PySem.Spec PyProof.Rows L2 Evl
section
variable {P : Program} {w : World} {K : PySem.W.Frag} {mg : Str → Option Value} {base : Heap} {f : Addr} {fd : FuncData} {n : Nat}
/-- beside, of a tuple of places or a list of them -/
def spBes (K : PySem.W.Frag) (n : Nat) : Sp := fun vs H Q E => spBesT K n vs H Q E ∨ spBesL K n vs H Q E
theorem ok_bes (F : FnP K "beside" sBes f fd) (O_side : Own P w K mg base 2 "side" ["one", "other", "place"] (spSide K n)) (g_min : mg "min" = none) (g_max : mg "max" = none) : FnOk P w K mg base CX0 3 f fd ["piece", "places"] (spBes K n) := by
  have sT := ok_besT F O_side g_min g_max
  have sL := ok_besL F O_side g_min g_max
  exact ⟨fun vs H Q E h => h.elim (sT.len vs H Q E) (sL.len vs H Q E), fun A outer s H args us vs Q E hr e0 hb r h => h.elim (sT.run A outer s H args us vs Q E hr e0 hb r) (sL.run A outer s H args us vs Q E hr e0 hb r)⟩
end
end Hs
namespace Hs
open PySem PySem.Spec PyProof.Rows L2 Evl
section
variable {P : Program} {w : World} {K : PySem.W.Frag} {mg : Str → Option Value} {base : Heap} {f : Addr} {fd : FuncData} {n : Nat}
theorem ok_pm (F : FnP K "pieces_meet" sPm f fd) (O_blocks_meet : Own P w K mg base 1 "blocks_meet" ["one", "other"] (spBlm K n)) (O_box_around : Own P w K mg base 1 "box_around" ["piece"] (spBox K n)) (O_beside : Own P w K mg base 3 "beside" ["piece", "places"] (spBes K n)) : FnOk P w K mg base CX0 4 f fd ["one", "other"] (spPm K n) := by
  have nd := scPm.nd
  refine F.ok scPm (fun vs H Q E h => ?_) (fun cdv A outer s H vs Q E hr h => ⟨_, PSs.nox (pss_cons (ps_if (pt_not (pt_val (Hs.pe_own O_blocks_meet hr (by first | decide | omega) (by rfl) (pa_cons (Hs.pe_own O_box_around hr (by first | decide | omega) (by rfl) (pa_cons (pv 0) pa_nil)) (pa_cons (Hs.pe_own O_box_around hr (by first | decide | omega) (by rfl) (pa_cons (pv 1) pa_nil)) pa_nil))))) (pss_one (ps_ret pe_bl)) pss_nil)
  (pss_one (ps_ret (pe_and (pe_not (Hs.pe_own O_beside hr (by first | decide | omega) (by rfl) (pa_cons (pv 0) (pa_cons (pv 1) pa_nil)))) (pe_one (pe_not (Hs.pe_own O_beside hr (by first | decide | omega) (by rfl) (pa_cons (pv 1) (pa_cons (pv 0) pa_nil))))))))), ?_⟩)
  · obtain ⟨p, q, a, b, c, d, rfl, _⟩ := h
    rfl
  · obtain ⟨p, q, a, b, c, d, rfl, hp, hq, k⟩ := h
    refine q_when (et_not (et_B (ev_blm (eu_box rfl hp) (eu_box rfl hq) hp.bdL hq.bdL))) (fun ht H1 e1 => ?_) (fun ht H1 e1 => ?_)
    · have hb : ¬ BoxM (boxOf a b) (boxOf c d) := fun z => by
        rw [decide_eq_true z] at ht
        exact Bool.noConfusion ht
      rw [decide_eq_false (fun z : Sat a b c d => hb z.1)] at k
      exact s_ret ev_c fun H2 e2 => k _ (e1.trans e2)
    · have hb : BoxM (boxOf a b) (boxOf c d) := Decidable.byContradiction fun z => by
        rw [decide_eq_false z] at ht
        exact Bool.noConfusion ht
      have bes : ∀ {i j : Nat} {p q : Addr} {a b c d : Pt} {σ : L2.St}, σ[i]? = some (some (.ref p)) → σ[j]? = some (some (.ref q)) → Pc K n H1 p a b → Pc K n H1 q c d → Ev (tCall (spBes K n) [] E0 (tCons (tVar i) (tCons (tVar j) tNil))) σ H1 (.bl (decide (Bes a b [c, d]))) := fun {i j p q a b c d σ} h1 h2 hp hq => ev_call (ea_cons (ev_var h1) (ea_cons (ev_var h2) ea_nil)) fun H2 e2 Q' q' E' => by
        obtain ⟨ps, hs, hl⟩ := (hq.ext e2).pll
        exact .inl ⟨p, q, a, b, ps, [c, d], rfl, hp.ext e2, hs, hl, by simp, by simp, q'⟩
      refine s_ret (ev_is (ev_andV (ev_notV (bes (i := 0) (j := 1) rfl rfl (hp.ext e1) (hq.ext e1))) fun _ => ev_notV (bes (i := 1) (j := 0) rfl rfl (hq.ext e1) (hp.ext e1))) ?_) fun H2 e2 => k _ (e1.trans e2)
      congr 1
      rw [Bool.eq_iff_iff]
      simp only [Bool.and_eq_true, Bool.not_eq_true', decide_eq_true_eq, decide_eq_false_iff_not]
      unfold Sat
      simp only [hb, true_and]
end
end Hs
namespace Hs
/-! ### the least and the greatest share: what they are -/
theorem low_gcd {a b : Int} (h : b ≠ 0) : Int.gcd (low a b).1 (low a b).2 = 1 := by
  have e1 := low_1 a b
  have e2 := low_2 a b
  have hp := gcd_pos (a := a) h
  have hg := sg_abs (a := a) (b := b)
  generalize sg a b = g at e1 e2 hg
  generalize low a b = s at e1 e2 ⊢
  subst e1 e2
  rw [Int.gcd_mul_left] at hg hp
  have h0 : 0 < g.natAbs := by
    rcases Nat.eq_zero_or_pos g.natAbs with z | z
    · rw [z, Nat.zero_mul] at hp
      omega
    · exact z
  exact Nat.eq_of_mul_eq_mul_left h0 (hg.symm.trans (Nat.mul_one _).symm)
theorem low_ratio {a b : Int} (h : 0 < b) : 0 < (low a b).2 ∧ ∃ g : Int, 0 < g ∧ a = g * (low a b).1 ∧ b = g * (low a b).2 := by
  have hp := gcd_pos (a := a) (b := b) (by omega)
  refine ⟨low_pos (by omega), sg a b, ?_, low_1 a b, low_2 a b⟩
  unfold sg
  rw [if_neg (by omega)]
  omega
theorem cmp3_neg {a b : Int} : cmp3 a b < 0 ↔ a < b := by
  unfold cmp3
  split
  · simp_all
  · split <;> omega
theorem cmp3_pos {a b : Int} : cmp3 a b > 0 ↔ b < a := by
  unfold cmp3
  split
  · omega
  · split <;> omega
theorem le_refl' (x : Pt) : x.1 * x.2 ≤ x.1 * x.2 := Int.le_refl _
theorem fold_le : ∀ {xs : List Pt} {d : Pt}, 0 < d.2 → (∀ x ∈ xs, 0 < x.2) → (xs.foldl leS d ∈ d :: xs) ∧ ∀ x ∈ d :: xs, (xs.foldl leS d).1 * x.2 ≤ x.1 * (xs.foldl leS d).2
  | [], d, _, _ => ⟨List.mem_cons_self .., fun x hx => by rw [List.mem_singleton.mp hx]; exact Int.le_refl _⟩
  | y :: ys, d, hd, hs => by
    have hy := hs y (List.mem_cons_self ..)
    have hs' := fun x hx => hs x (List.mem_cons_of_mem y hx)
    have hm : 0 < (leS d y).2 := by
      unfold leS
      split
      · exact hy
      · exact hd
    obtain ⟨h1, h2⟩ := fold_le (xs := ys) (d := leS d y) hm hs'
    rw [List.foldl_cons]
    generalize ys.foldl leS (leS d y) = r at h1 h2
    have rp : 0 < r.2 := by
      rcases List.mem_cons.mp h1 with rfl | h
      · exact hm
      · exact hs' r h
    have hr := h2 _ (List.mem_cons_self ..)
    have key : r.1 * d.2 ≤ d.1 * r.2 ∧ r.1 * y.2 ≤ y.1 * r.2 := by
      unfold leS at hr
      split at hr
      · rename_i hc
        have hc := cmp3_neg.mp hc
        exact ⟨ratio_trans hy rp hd hr (Int.le_of_lt hc), hr⟩
      · rename_i hc
        have hc : ¬ y.1 * d.2 < d.1 * y.2 := fun q => hc (cmp3_neg.mpr q)
        exact ⟨hr, ratio_trans hd rp hy hr (by omega)⟩
    refine ⟨?_, fun x hx => ?_⟩
    · rcases List.mem_cons.mp h1 with rfl | h
      · unfold leS
        split
        · exact List.mem_cons_of_mem _ (List.mem_cons_self ..)
        · exact List.mem_cons_self ..
      · exact List.mem_cons_of_mem _ (List.mem_cons_of_mem _ h)
    · rcases List.mem_cons.mp hx with rfl | hx
      · exact key.1
      · rcases List.mem_cons.mp hx with rfl | hx
        · exact key.2
        · exact h2 x (List.mem_cons_of_mem _ hx)
theorem fold_gr : ∀ {xs : List Pt} {d : Pt}, 0 < d.2 → (∀ x ∈ xs, 0 < x.2) → (xs.foldl grS d ∈ d :: xs) ∧ ∀ x ∈ d :: xs, x.1 * (xs.foldl grS d).2 ≤ (xs.foldl grS d).1 * x.2
  | [], d, _, _ => ⟨List.mem_cons_self .., fun x hx => by rw [List.mem_singleton.mp hx]; exact Int.le_refl _⟩
  | y :: ys, d, hd, hs => by
    have hy := hs y (List.mem_cons_self ..)
    have hs' := fun x hx => hs x (List.mem_cons_of_mem y hx)
    have hm : 0 < (grS d y).2 := by
      unfold grS
      split
      · exact hy
      · exact hd
    obtain ⟨h1, h2⟩ := fold_gr (xs := ys) (d := grS d y) hm hs'
    rw [List.foldl_cons]
    generalize ys.foldl grS (grS d y) = r at h1 h2
    have rp : 0 < r.2 := by
      rcases List.mem_cons.mp h1 with rfl | h
      · exact hm
      · exact hs' r h
    have hr := h2 _ (List.mem_cons_self ..)
    have key : d.1 * r.2 ≤ r.1 * d.2 ∧ y.1 * r.2 ≤ r.1 * y.2 := by
      unfold grS at hr
      split at hr
      · rename_i hc
        have hc := cmp3_pos.mp hc
        exact ⟨ratio_trans hy hd rp (Int.le_of_lt hc) hr, hr⟩
      · rename_i hc
        have hc : ¬ d.1 * y.2 < y.1 * d.2 := fun q => hc (cmp3_pos.mpr q)
        exact ⟨hr, ratio_trans hd hy rp (by omega) hr⟩
    refine ⟨?_, fun x hx => ?_⟩
    · rcases List.mem_cons.mp h1 with rfl | h
      · unfold grS
        split
        · exact List.mem_cons_of_mem _ (List.mem_cons_self ..)
        · exact List.mem_cons_self ..
      · exact List.mem_cons_of_mem _ (List.mem_cons_of_mem _ h)
    · rcases List.mem_cons.mp hx with rfl | hx
      · exact key.1
      · rcases List.mem_cons.mp hx with rfl | hx
        · exact key.2
        · exact h2 x (List.mem_cons_of_mem _ hx)
theorem least_ok {xs : List Pt} (hn : xs ≠ []) (hs : ∀ x ∈ xs, 0 < x.2) : leastS xs ∈ xs ∧ ∀ x ∈ xs, (leastS xs).1 * x.2 ≤ x.1 * (leastS xs).2 := by
  cases xs with
  | nil => exact absurd rfl hn
  | cons d ds =>
    obtain ⟨h1, h2⟩ := fold_le (xs := d :: ds) (d := d) (hs d (List.mem_cons_self ..)) hs
    refine ⟨?_, fun x hx => h2 x (List.mem_cons_of_mem _ hx)⟩
    rcases List.mem_cons.mp h1 with h | h
    · show List.foldl leS d (d :: ds) ∈ _
      rw [h]
      exact List.mem_cons_self ..
    · exact h
theorem great_ok {xs : List Pt} (hn : xs ≠ []) (hs : ∀ x ∈ xs, 0 < x.2) : greatS xs ∈ xs ∧ ∀ x ∈ xs, x.1 * (greatS xs).2 ≤ (greatS xs).1 * x.2 := by
  cases xs with
  | nil => exact absurd rfl hn
  | cons d ds =>
    obtain ⟨h1, h2⟩ := fold_gr (xs := d :: ds) (d := d) (hs d (List.mem_cons_self ..)) hs
    refine ⟨?_, fun x hx => h2 x (List.mem_cons_of_mem _ hx)⟩
    rcases List.mem_cons.mp h1 with h | h
    · show List.foldl grS d (d :: ds) ∈ _
      rw [h]
      exact List.mem_cons_self ..
    · exact h
/-- .. and where f is nowhere below 0 -/
theorem CutOk.dual0 {m : Nat} {init hs pts : List (List Int)} (C : CutOk m init hs pts) {f : List Int} (hf : f.length = m) (h : ∀ p ∈ pts, 0 ≤ dot p f) {u : List Int} (hu : InS m hs u) : 0 ≤ dot u f := by
  apply Decidable.byContradiction
  intro hn
  have ol : (ones m).length = f.length := by simp [ones, hf]
  have q := C.dual (comb (ones m) 1 f (dot u (ones m))) ((comb_len ol).trans (by simp [ones])) (fun p hp => ?_) u hu
  · rw [mix_dot ol] at q
    have := Int.mul_le_mul_of_nonneg_left (c := dot u (ones m)) (show dot u f ≤ -1 by omega) (by have := hu.1.pos; omega)
    omega
  · rw [mix_dot ol]
    have e1 := (C.mem p hp).1.pos
    have e2 := Int.mul_nonneg (show 0 ≤ dot u (ones m) by have := hu.1.pos; omega) (h p hp)
    omega
theorem shr2 (w0 w1 : Int) : shr [w0, w1] = low w1 (w0 + w1) := rfl
/-- a fraction from 0 to 1 in lowest terms -/
structure Fr1 (s : Pt) : Prop where
  pos : 0 < s.2
  nn : 0 ≤ s.1
  le : s.1 ≤ s.2
  gcd : Int.gcd s.1 s.2 = 1
theorem shr_fr {w : List Int} (h : Wt 2 w) : Fr1 (shr w) := by
  obtain ⟨w0, w1, rfl, h0, h1, hk⟩ := wt2 h
  rw [shr2]
  obtain ⟨g1, g, g0, e1, e2⟩ := low_ratio (a := w1) (b := w0 + w1) hk
  refine ⟨g1, ?_, ?_, low_gcd (by omega)⟩
  · refine Decidable.byContradiction fun hn => ?_
    have := Int.mul_neg_of_pos_of_neg g0 (show (low w1 (w0 + w1)).1 < 0 by omega)
    omega
  · exact Int.le_of_mul_le_mul_left (show g * (low w1 (w0 + w1)).1 ≤ g * (low w1 (w0 + w1)).2 by omega) g0
/-- the share of weights that are in is in -/
theorem shr_in {hs : List (List Int)} (hl : ∀ h ∈ hs, h.length = 2) {w : List Int} (h : InS 2 hs w) : InS 2 hs [(shr w).2 - (shr w).1, (shr w).1] := by
  have F := shr_fr h.1
  obtain ⟨w0, w1, rfl, h0, h1, hk⟩ := wt2 h.1
  rw [shr2] at F ⊢
  obtain ⟨g1, g, g0, e1, e2⟩ := low_ratio (a := w1) (b := w0 + w1) hk
  generalize low w1 (w0 + w1) = s at *
  have hp := F.pos
  have hn := F.nn
  have hle := F.le
  refine ⟨wt2_of (by omega) hn (by omega), fun k hh => ?_⟩
  obtain ⟨x, y, rfl⟩ : ∃ x y, k = [x, y] := match k, hl k hh with | [x, y], _ => ⟨x, y, rfl⟩
  have q := h.2 _ hh
  rw [dot2] at q ⊢
  have e : w0 * x + w1 * y = g * ((s.2 - s.1) * x + s.1 * y) := by
    have : w0 = g * s.2 - g * s.1 := by omega
    rw [this]
    conv => lhs; rw [e1]
    grind
  rw [e] at q
  refine Decidable.byContradiction fun hneg => ?_
  have := Int.mul_neg_of_pos_of_neg g0 (show (s.2 - s.1) * x + s.1 * y < 0 by omega)
  omega
/-- which shares are in: those between the least and the greatest -/
structure EndsOk (hs : List (List Int)) (lo hi : Pt) : Prop where
  lo1 : Fr1 lo
  hi1 : Fr1 hi
  le : lo.1 * hi.2 ≤ hi.1 * lo.2
  iff : ∀ x y : Int, 0 < y → 0 ≤ x → x ≤ y → (InS 2 hs [y - x, x] ↔ lo.1 * y ≤ x * lo.2 ∧ x * hi.2 ≤ hi.1 * y)
theorem ends_ok {hs pts : List (List Int)} (hl : ∀ h ∈ hs, h.length = 2) (C : CutOk 2 unit2 hs pts) (hn : pts ≠ []) : EndsOk hs (leastS (pts.map shr)) (greatS (pts.map shr)) := by
  have fr : ∀ x ∈ pts.map shr, Fr1 x := fun x hx => by
    obtain ⟨w, hw, rfl⟩ := List.mem_map.mp hx
    exact shr_fr (C.mem w hw).1
  have ne : pts.map shr ≠ [] := by simp [hn]
  obtain ⟨l1, l2⟩ := least_ok ne fun x hx => (fr x hx).pos
  obtain ⟨g1, g2⟩ := great_ok ne fun x hx => (fr x hx).pos
  have inS : ∀ x ∈ pts.map shr, InS 2 hs [x.2 - x.1, x.1] := fun x hx => by
    obtain ⟨w, hw, rfl⟩ := List.mem_map.mp hx
    exact shr_in hl (C.mem w hw)
  have lof := fr _ l1
  have hif := fr _ g1
  have loS := inS _ l1
  have hiS := inS _ g1
  have lohi := g2 _ l1
  have sh : ∀ w ∈ pts, ∃ w0 w1 g : Int, w = [w0, w1] ∧ 0 < g ∧ w1 = g * (shr w).1 ∧ w0 + w1 = g * (shr w).2 := fun w hw => by
    obtain ⟨w0, w1, rfl, h0, h1, hk⟩ := wt2 (C.mem w hw).1
    obtain ⟨_, g, g0, e1, e2⟩ := low_ratio (a := w1) (b := w0 + w1) hk
    exact ⟨w0, w1, g, rfl, g0, e1, e2⟩
  generalize leastS (pts.map shr) = lo at *
  generalize greatS (pts.map shr) = hi at *
  refine ⟨lof, hif, lohi, fun x y hy hx hxy => ⟨fun hS => ⟨?_, ?_⟩, fun ⟨b1, b2⟩ => ⟨wt2_of (by omega) hx (by omega), fun k hk => ?_⟩⟩⟩
  · -- f = [-lo.1, lo.2 - lo.1]
    have q := C.dual0 (f := [-lo.1, lo.2 - lo.1]) rfl (fun p hp => ?_) hS
    · rw [dot2] at q
      have e : (y - x) * -lo.1 + x * (lo.2 - lo.1) = x * lo.2 - lo.1 * y := by grind
      omega
    · obtain ⟨w0, w1, g, rfl, g0, e1, e2⟩ := sh p hp
      have := l2 _ (List.mem_map.mpr ⟨_, hp, rfl⟩)
      rw [dot2]
      have e : w0 * -lo.1 + w1 * (lo.2 - lo.1) = w1 * lo.2 - lo.1 * (w0 + w1) := by grind
      have e3 : w1 * lo.2 - lo.1 * (w0 + w1) = g * ((shr [w0, w1]).1 * lo.2 - lo.1 * (shr [w0, w1]).2) := by
        rw [e2]
        conv => lhs; rw [e1]
        grind
      have := Int.mul_nonneg (Int.le_of_lt g0) (show 0 ≤ (shr [w0, w1]).1 * lo.2 - lo.1 * (shr [w0, w1]).2 by omega)
      omega
  · have q := C.dual0 (f := [hi.1, hi.1 - hi.2]) rfl (fun p hp => ?_) hS
    · rw [dot2] at q
      have e : (y - x) * hi.1 + x * (hi.1 - hi.2) = hi.1 * y - x * hi.2 := by grind
      omega
    · obtain ⟨w0, w1, g, rfl, g0, e1, e2⟩ := sh p hp
      have := g2 _ (List.mem_map.mpr ⟨_, hp, rfl⟩)
      rw [dot2]
      have e : w0 * hi.1 + w1 * (hi.1 - hi.2) = hi.1 * (w0 + w1) - w1 * hi.2 := by grind
      have e3 : hi.1 * (w0 + w1) - w1 * hi.2 = g * (hi.1 * (shr [w0, w1]).2 - (shr [w0, w1]).1 * hi.2) := by
        rw [e2]
        conv => lhs; rw [e1]
        grind
      have := Int.mul_nonneg (Int.le_of_lt g0) (show 0 ≤ hi.1 * (shr [w0, w1]).2 - (shr [w0, w1]).1 * hi.2 by omega)
      omega
  · obtain ⟨u, v, rfl⟩ : ∃ u v, k = [u, v] := match k, hl k hk with | [u, v], _ => ⟨u, v, rfl⟩
    have q1 := loS.2 _ hk
    have q2 := hiS.2 _ hk
    rw [dot2] at q1 q2 ⊢
    have lp := lof.pos
    have hp := hif.pos
    refine Decidable.byContradiction fun hneg => ?_
    rcases Int.le_total 0 (v - u) with d | d
    · have e1 : lo.2 * ((y - x) * u + x * v) = y * ((lo.2 - lo.1) * u + lo.1 * v) + (x * lo.2 - lo.1 * y) * (v - u) := by grind
      have k1 := Int.mul_nonneg (Int.le_of_lt hy) q1
      have k2 := Int.mul_nonneg (show 0 ≤ x * lo.2 - lo.1 * y by omega) d
      have k3 := Int.mul_neg_of_pos_of_neg lp (show (y - x) * u + x * v < 0 by omega)
      omega
    · have e1 : hi.2 * ((y - x) * u + x * v) = y * ((hi.2 - hi.1) * u + hi.1 * v) + (x * hi.2 - hi.1 * y) * (v - u) := by grind
      have k1 := Int.mul_nonneg (Int.le_of_lt hy) q2
      have k2 := Int.mul_nonneg_of_nonpos_of_nonpos (show x * hi.2 - hi.1 * y ≤ 0 by omega) d
      have k3 := Int.mul_neg_of_pos_of_neg hp (show (y - x) * u + x * v < 0 by omega)
      omega
theorem cop_dvd {k m n : Int} (h : k ∣ m * n) (hc : Int.gcd k m = 1) : k ∣ n := by
  have h1 : k.natAbs ∣ m.natAbs * n.natAbs := by
    rw [← Int.natAbs_mul]
    exact Int.natAbs_dvd_natAbs.mpr h
  exact Int.natAbs_dvd_natAbs.mp (Nat.Coprime.dvd_of_dvd_mul_left hc h1)
/-- such ends are told by the shares alone -/
theorem fr_eq {s t : Pt} (hs : Fr1 s) (ht : Fr1 t) (h : s.1 * t.2 = t.1 * s.2) : s = t := by
  obtain ⟨s1, s2⟩ := s
  obtain ⟨t1, t2⟩ := t
  obtain ⟨p1, n1, _, g1⟩ := hs
  obtain ⟨p2, n2, _, g2⟩ := ht
  simp only at *
  have d1 : s2 ∣ t2 := by
    have : s2 ∣ s1 * t2 := ⟨t1, by rw [h]; exact Int.mul_comm ..⟩
    exact cop_dvd this (by rw [Int.gcd_comm]; exact g1)
  have d2 : t2 ∣ s2 := by
    have : t2 ∣ t1 * s2 := ⟨s1, by rw [← h]; exact Int.mul_comm ..⟩
    exact cop_dvd this (by rw [Int.gcd_comm]; exact g2)
  have e : s2 = t2 := Int.dvd_antisymm (by omega) (by omega) d1 d2
  subst e
  have : s1 = t1 := Int.eq_of_mul_eq_mul_right (by omega) h
  rw [this]
theorem ends_eq {hs hs' : List (List Int)} {lo hi lo' hi' : Pt} (E : EndsOk hs lo hi) (E' : EndsOk hs' lo' hi') (h : ∀ x y : Int, 0 < y → 0 ≤ x → x ≤ y → (InS 2 hs [y - x, x] ↔ InS 2 hs' [y - x, x])) : lo = lo' ∧ hi = hi' := by
  have a1 := (E.iff lo.1 lo.2 E.lo1.pos E.lo1.nn E.lo1.le).mpr ⟨Int.le_refl _, E.le⟩
  have a2 := (E.iff hi.1 hi.2 E.hi1.pos E.hi1.nn E.hi1.le).mpr ⟨E.le, Int.le_refl _⟩
  have b1 := (E'.iff lo'.1 lo'.2 E'.lo1.pos E'.lo1.nn E'.lo1.le).mpr ⟨Int.le_refl _, E'.le⟩
  have b2 := (E'.iff hi'.1 hi'.2 E'.hi1.pos E'.hi1.nn E'.hi1.le).mpr ⟨E'.le, Int.le_refl _⟩
  have c1 := (E'.iff lo.1 lo.2 E.lo1.pos E.lo1.nn E.lo1.le).mp ((h _ _ E.lo1.pos E.lo1.nn E.lo1.le).mp a1)
  have c2 := (E'.iff hi.1 hi.2 E.hi1.pos E.hi1.nn E.hi1.le).mp ((h _ _ E.hi1.pos E.hi1.nn E.hi1.le).mp a2)
  have d1 := (E.iff lo'.1 lo'.2 E'.lo1.pos E'.lo1.nn E'.lo1.le).mp ((h _ _ E'.lo1.pos E'.lo1.nn E'.lo1.le).mpr b1)
  have d2 := (E.iff hi'.1 hi'.2 E'.hi1.pos E'.hi1.nn E'.hi1.le).mp ((h _ _ E'.hi1.pos E'.hi1.nn E'.hi1.le).mpr b2)
  exact ⟨fr_eq E.lo1 E'.lo1 (Int.le_antisymm d1.1 c1.1), fr_eq E.hi1 E'.hi1 (Int.le_antisymm c2.2 d2.2)⟩
end Hs
namespace Hs
/-! ### moved, turned, mirrored, stretched -/
inductive Way where
  | move (x y : Int)
  | turn
  | mirror
  | stretch (k : Int)
def Way.ok : Way → Prop
  | .stretch k => 0 < k
  | _ => True
/-- the way, at places k times as far out -/
def Way.hom (t : Way) (k : Int) (p : Pt) : Pt := match t with
  | .move x y => (p.1 + k * x, p.2 + k * y)
  | .turn => (-p.2, p.1)
  | .mirror => (-p.1, p.2)
  | .stretch m => (p.1 * m, p.2 * m)
def Way.led (t : Way) (p : Pt) : Pt := match t with
  | .move x y => (p.1 + x, p.2 + y)
  | .turn => (0 - p.2, p.1)
  | .mirror => (0 - p.1, p.2)
  | .stretch m => (p.1 * m, p.2 * m)
def Way.ledB (t : Way) (B : Blk) : Blk := boxOf (t.led (B.left, B.low)) (t.led (B.right, B.high))
theorem mn_add {i j k : Int} : mn (i + k) (j + k) = mn i j + k := by
  unfold mn
  split <;> split <;> omega
theorem mx_add {i j k : Int} : mx (i + k) (j + k) = mx i j + k := by
  unfold mx
  split <;> split <;> omega
theorem mn_neg {i j : Int} : mn (-i) (-j) = -mx i j := by
  unfold mn mx
  split <;> split <;> omega
theorem mx_neg {i j : Int} : mx (-i) (-j) = -mn i j := by
  unfold mn mx
  split <;> split <;> omega
theorem mn_scale' {k i j : Int} (hk : 0 < k) : mn (i * k) (j * k) = mn i j * k := by
  rw [Int.mul_comm i, Int.mul_comm j, mn_scale hk, Int.mul_comm]
theorem mx_scale' {k i j : Int} (hk : 0 < k) : mx (i * k) (j * k) = mx i j * k := by
  rw [Int.mul_comm i, Int.mul_comm j, mx_scale hk, Int.mul_comm]
theorem le_scale {k i j : Int} (hk : 0 < k) : i * k ≤ j * k ↔ i ≤ j := ⟨fun h => Int.le_of_mul_le_mul_right h hk, fun h => Int.mul_le_mul_of_nonneg_right h (Int.le_of_lt hk)⟩
theorem onp_hom {t : Way} (ht : t.ok) {k : Int} {c d p : Pt} : OnP (t.hom k c) (t.hom k d) (t.hom k p) ↔ OnP c d p := by
  unfold OnP
  cases t with
  | move x y =>
    have e : cross (Way.hom (.move x y) k c) (Way.hom (.move x y) k d) (Way.hom (.move x y) k p) = cross c d p := by
      simp only [cross, Way.hom]
      grind
    rw [e]
    simp only [Way.hom, mn_add, mx_add]
    omega
  | turn =>
    have e : cross (Way.hom .turn k c) (Way.hom .turn k d) (Way.hom .turn k p) = cross c d p := by
      simp only [cross, Way.hom]
      grind
    rw [e]
    simp only [Way.hom, mn_neg, mx_neg]
    omega
  | mirror =>
    have e : cross (Way.hom .mirror k c) (Way.hom .mirror k d) (Way.hom .mirror k p) = -cross c d p := by
      simp only [cross, Way.hom]
      grind
    rw [e]
    simp only [Way.hom, mn_neg, mx_neg]
    omega
  | stretch m =>
    have hm : 0 < m := ht
    have e : cross (Way.hom (.stretch m) k c) (Way.hom (.stretch m) k d) (Way.hom (.stretch m) k p) = (m * m) * cross c d p := by
      simp only [cross, Way.hom]
      grind
    have z : (m * m) * cross c d p = 0 ↔ cross c d p = 0 := by
      have := Int.mul_pos hm hm
      constructor
      · intro q
        rcases Int.mul_eq_zero.mp q with q | q
        · omega
        · exact q
      · intro q
        rw [q, Int.mul_zero]
    rw [e, z]
    simp only [Way.hom, mn_scale' hm, mx_scale' hm, le_scale hm]
theorem led_comb {t : Way} {a b : Pt} {w0 w1 : Int} : (w0 * (t.led a).1 + w1 * (t.led b).1, w0 * (t.led a).2 + w1 * (t.led b).2) = t.hom (w0 + w1) (w0 * a.1 + w1 * b.1, w0 * a.2 + w1 * b.2) := by
  cases t <;> simp only [Way.led, Way.hom] <;> refine Prod.ext ?_ ?_ <;> dsimp only <;> grind
theorem led_scale {t : Way} {c : Pt} {k : Int} : (k * (t.led c).1, k * (t.led c).2) = t.hom k (k * c.1, k * c.2) := by
  cases t <;> simp only [Way.led, Way.hom] <;> refine Prod.ext ?_ ?_ <;> dsimp only <;> grind
theorem ins_led {t : Way} (ht : t.ok) {a b c d : Pt} {w0 w1 : Int} : InS 2 (rows2 (phts (t.led c) (t.led d) (t.led a)) (phts (t.led c) (t.led d) (t.led b))) [w0, w1] ↔ InS 2 (rows2 (phts c d a) (phts c d b)) [w0, w1] := by
  rw [ins_phts, ins_phts, led_comb, led_scale, led_scale, onp_hom ht]
theorem vb_led {t : Way} {B : Blk} : Vb (t.ledB B) := by
  unfold Vb Way.ledB boxOf mn mx
  dsimp only
  constructor <;> split <;> split <;> omega
theorem ink_led {t : Way} (ht : t.ok) {B : Blk} (hv : Vb B) {k X Y : Int} (hk : 0 < k) : InK (t.ledB B) k (t.hom k (X, Y)).1 (t.hom k (X, Y)).2 ↔ InK B k X Y := by
  obtain ⟨v1, v2⟩ := hv
  unfold InK Way.ledB boxOf
  cases t with
  | move x y =>
    simp only [Way.hom, Way.led, mn_add, mx_add, (mn_eq v1).1, (mn_eq v1).2.2.1, (mn_eq v2).1, (mn_eq v2).2.2.1, Int.mul_add]
    omega
  | turn =>
    simp only [Way.hom, Way.led, Int.zero_sub, mn_neg, mx_neg, (mn_eq v1).1, (mn_eq v1).2.2.1, (mn_eq v2).1, (mn_eq v2).2.2.1, Int.mul_neg]
    omega
  | mirror =>
    simp only [Way.hom, Way.led, Int.zero_sub, mn_neg, mx_neg, (mn_eq v1).1, (mn_eq v1).2.2.1, (mn_eq v2).1, (mn_eq v2).2.2.1, Int.mul_neg]
    omega
  | stretch m =>
    have hm : 0 < m := ht
    simp only [Way.hom, Way.led, mn_scale' hm, mx_scale' hm, (mn_eq v1).1, (mn_eq v1).2.2.1, (mn_eq v2).1, (mn_eq v2).2.2.1, ← Int.mul_assoc, le_scale hm]
theorem insB_led {t : Way} (ht : t.ok) {B : Blk} (hv : Vb B) {a b : Pt} {w0 w1 : Int} : InS 2 (rows2 (hts (t.ledB B) (t.led a)) (hts (t.ledB B) (t.led b))) [w0, w1] ↔ InS 2 (rows2 (hts B a) (hts B b)) [w0, w1] := by
  rw [ins_hts, ins_hts]
  refine and_congr_right fun hw => ?_
  obtain ⟨x, y, e, h0, h1, hk⟩ := wt2 hw
  injection e with e1 e2
  injection e2 with e2 _
  subst e1 e2
  have e := led_comb (t := t) (a := a) (b := b) (w0 := w0) (w1 := w1)
  have e1 : w0 * (t.led a).1 + w1 * (t.led b).1 = _ := (Prod.ext_iff.mp e).1
  have e2 : w0 * (t.led a).2 + w1 * (t.led b).2 = _ := (Prod.ext_iff.mp e).2
  rw [e1, e2]
  exact ink_led ht hv hk
theorem led_inj {t : Way} (ht : t.ok) {a b : Pt} : t.led a = t.led b ↔ a = b := by
  refine ⟨fun h => ?_, fun h => by rw [h]⟩
  have h1 := (Prod.ext_iff.mp h).1
  have h2 := (Prod.ext_iff.mp h).2
  cases t with
  | move x y => exact Prod.ext (by simp only [Way.led] at h1; omega) (by simp only [Way.led] at h2; omega)
  | turn => exact Prod.ext (by simp only [Way.led] at h2; omega) (by simp only [Way.led] at h1; omega)
  | mirror => exact Prod.ext (by simp only [Way.led] at h1; omega) (by simp only [Way.led] at h2; omega)
  | stretch m =>
    have hm : 0 < m := ht
    exact Prod.ext (Int.eq_of_mul_eq_mul_right (by omega) h1) (Int.eq_of_mul_eq_mul_right (by omega) h2)
theorem ex2 {hs : List (List Int)} : (∃ u, InS 2 hs u) ↔ ∃ w0 w1, InS 2 hs [w0, w1] := by
  constructor
  · rintro ⟨u, hu⟩
    obtain ⟨w0, w1, rfl, _⟩ := wt2 hu.1
    exact ⟨w0, w1, hu⟩
  · rintro ⟨w0, w1, h⟩
    exact ⟨_, h⟩
theorem met_eq {x y x' y' : Pt} {hs hs' : List (List Int)} (l : ∀ h ∈ hs, h.length = 2) (l' : ∀ h ∈ hs', h.length = 2) (hxy : x = y ↔ x' = y') (h : ∀ w0 w1 : Int, InS 2 hs [w0, w1] ↔ InS 2 hs' [w0, w1]) : metV x y (cutAll unit2 hs) = metV x' y' (cutAll unit2 hs') := by
  have C := cut2_ok l
  have C' := cut2_ok l'
  have n : cutAll unit2 hs = [] ↔ cutAll unit2 hs' = [] := by
    rw [C.none_iff, C'.none_iff, ex2, ex2]
    simp only [h]
  unfold metV
  by_cases h0 : cutAll unit2 hs = []
  · rw [if_pos h0, if_pos (n.mp h0)]
  · have h0' := fun z => h0 (n.mpr z)
    rw [if_neg h0, if_neg h0']
    by_cases he : x = y
    · rw [if_pos he, if_pos (hxy.mp he)]
    · rw [if_neg he, if_neg (fun z => he (hxy.mpr z))]
      obtain ⟨e1, e2⟩ := ends_eq (ends_ok l C h0) (ends_ok l' C' h0') fun x y _ _ _ => h _ _
      rw [e1, e2]
theorem metB_led {t : Way} (ht : t.ok) {B : Blk} (hv : Vb B) {a b : Pt} : metV (t.led a) (t.led b) (cutAll unit2 (rows2 (hts (t.ledB B) (t.led a)) (hts (t.ledB B) (t.led b)))) = metV a b (cutAll unit2 (rows2 (hts B a) (hts B b))) :=
  met_eq rows2_len rows2_len (led_inj ht) fun _ _ => insB_led ht hv
theorem metP_led {t : Way} (ht : t.ok) {a b c d : Pt} : metV (t.led a) (t.led b) (cutAll unit2 (rows2 (phts (t.led c) (t.led d) (t.led a)) (phts (t.led c) (t.led d) (t.led b)))) = metV a b (cutAll unit2 (rows2 (phts c d a) (phts c d b))) :=
  met_eq rows2_len rows2_len (led_inj ht) fun _ _ => ins_led ht
theorem satB_led {t : Way} (ht : t.ok) {B : Blk} (hv : Vb B) {a b : Pt} : SatB (t.ledB B) (t.led a) (t.led b) ↔ SatB B a b := by
  rw [satB_iff vb_led, satB_iff hv, hits_iff vb_led, hits_iff hv, ← ins_meetB, ← ins_meetB, ex2, ex2]
  simp only [insB_led ht hv]
theorem sat_led {t : Way} (ht : t.ok) {a b c d : Pt} : Sat (t.led a) (t.led b) (t.led c) (t.led d) ↔ Sat a b c d := by
  rw [sat_iff, sat_iff, ← meet_iff, ← meet_iff, ← ins_meet, ← ins_meet, ex2, ex2]
  simp only [ins_led ht]
end Hs
namespace Hs
open PySem PySem.Spec PyProof.Rows L2 Evl
section
variable {P : Program} {w : World} {K : PySem.W.Frag} {mg : Str → Option Value} {base : Heap} {f : Addr} {fd : FuncData} {n m N : Nat}
def spBm (K : PySem.W.Frag) (n : Nat) : Sp := fun vs H Q _ => ∃ (p q : Addr) (B : Blk) (a b : Pt), vs = [.ref p, .ref q] ∧ Bl K n H p B ∧ Pc K n H q a b ∧ RetV (.bl (decide (SatB B a b))) H Q
abbrev sBm : Stmt := top 22
theorem scBm : FnScope ["block", "piece", "left", "low", "right", "high"] ["block", "piece"] (defScope sBm) := ⟨rfl, rfl, rfl, by decide +kernel, rfl, by decide +kernel, by decide +kernel⟩
theorem ok_bm (F : FnP K "block_meets" sBm f fd) (O_blocks_meet : Own P w K mg base 1 "blocks_meet" ["one", "other"] (spBlm K n)) (O_box_around : Own P w K mg base 1 "box_around" ["piece"] (spBox K n)) (O_beside : Own P w K mg base 3 "beside" ["piece", "places"] (spBes K n)) : FnOk P w K mg base CX0 4 f fd ["block", "piece"] (spBm K n) := by
  have nd := scBm.nd
  refine F.ok scBm (fun vs H Q E h => ?_) (fun cdv A outer s H vs Q E hr h => ⟨_, PSs.nox (pss_cons (ps_if (pt_not (pt_val (Hs.pe_own O_blocks_meet hr (by first | decide | omega) (by rfl) (pa_cons (pv 0) (pa_cons (Hs.pe_own O_box_around hr (by first | decide | omega) (by rfl) (pa_cons (pv 1) pa_nil)) pa_nil))))) (pss_one (ps_ret pe_bl)) pss_nil)
  (pss_cons (ps_asg (pv 0) (pg_tup rfl (pgs_cons (pg_name (i := 2) nd rfl (.inl rfl)) (pgs_cons (pg_name (i := 3) nd rfl (.inl rfl)) (pgs_cons (pg_name (i := 4) nd rfl (.inl rfl)) (pgs_cons (pg_name (i := 5) nd rfl (.inl rfl)) pgs_nil))))))
  (pss_one (ps_ret (pe_not (Hs.pe_own O_beside hr (by first | decide | omega) (by rfl) (pa_cons (pv 1) (pa_cons (pe_lst (pa_cons (pe_tup (pa_cons (pv 2) (pa_cons (pv 3) pa_nil))) (pa_cons (pe_tup (pa_cons (pv 4) (pa_cons (pv 3) pa_nil))) (pa_cons (pe_tup (pa_cons (pv 4) (pa_cons (pv 5) pa_nil))) (pa_cons (pe_tup (pa_cons (pv 2) (pa_cons (pv 5) pa_nil))) pa_nil))))) pa_nil)))))))), ?_⟩)
  · obtain ⟨p, q, B, a, b, rfl, _⟩ := h
    rfl
  · obtain ⟨p, q, B, a, b, rfl, hp, hq, k⟩ := h
    refine q_when (b := !decide (BoxM B (boxOf a b))) (et_not (et_B (fun H1 e Q q' => ⟨_, rfl, eu_box (K := K) (n := n) (i := 1) (p := q) (a := a) (b := b) (σ := [some (.ref p), some (.ref q), none, none, none, none]) (E := E0) rfl (hq.ext e) H1 (Ex.refl _) _ fun t H2 nt e2 ht => ⟨p, t, B, boxOf a b, rfl, hp.ext (e.trans e2), ⟨st_of ht, hq.bdL⟩, fun H3 e3 => q' H3 (e2.trans e3)⟩⟩))) (fun ht H1 e1 => ?_) (fun ht H1 e1 => ?_)
    · have hb : ¬ BoxM B (boxOf a b) := fun z => by
        rw [decide_eq_true z] at ht
        exact Bool.noConfusion ht
      rw [decide_eq_false (fun z : SatB B a b => hb z.1)] at k
      exact s_ret ev_c fun H2 e2 => k _ (e1.trans e2)
    · have hb : BoxM B (boxOf a b) := Decidable.byContradiction fun z => by
        rw [decide_eq_false z] at ht
        exact Bool.noConfusion ht
      have ek : decide (SatB B a b) = !decide (Bes a b (corners B)) := by
        rw [Bool.eq_iff_iff, Bool.not_eq_true', decide_eq_true_eq, decide_eq_false_iff_not]
        exact ⟨fun z => z.2, fun z => ⟨hb, z⟩⟩
      rw [ek] at k
      refine ⟨_, rfl, p, _, rfl, (hp.ext e1).1, rfl, _, _, rfl, _, _, rfl, _, _, rfl, _, _, rfl, rfl, ?_⟩
      refine ⟨_, rfl, _, rfl, _, rfl, sz_of (by simp), fun t1 h1 => ⟨_, rfl, _, rfl, sz_of (by simp), fun t2 h2 => ⟨_, rfl, _, rfl, sz_of (by simp), fun t3 h3 => ⟨_, rfl, _, rfl, sz_of (by simp), fun t4 h4 => ⟨sz_of (by simp), fun tl hl => ?_⟩⟩⟩⟩⟩
      have x1 := Ex.new (o := .tup (prV (B.left, B.low))) h1
      have x2 := Ex.new (o := .tup (prV (B.right, B.low))) h2
      have x3 := Ex.new (o := .tup (prV (B.right, B.high))) h3
      have x4 := Ex.new (o := .tup (prV (B.left, B.high))) h4
      have x5 := Ex.new (o := .lst [V.ref t1, .ref t2, .ref t3, .ref t4]) hl
      have x45 := x4.trans x5
      have x35 := x3.trans x45
      have x25 := x2.trans x35
      have x15 := (e1.trans x1).trans x25
      obtain ⟨b1, b2, b3, b4⟩ := hp.2
      refine .inr ⟨q, tl, a, b, [t1, t2, t3, t4], corners B, rfl, hq.ext x15, sq_of upd_same, ⟨rfl, fun i r z hr' hz => ?_⟩, by show 0 < 4; decide, by show 4 ≤ 100; decide, fun H2 e2 => ⟨_, rfl, k H2 (x15.trans e2)⟩⟩
      match i, hr', hz with
      | 0, hr', hz => cases hr'; cases hz; exact ⟨st_of (x25 _ _ upd_same), b1, b2⟩
      | 1, hr', hz => cases hr'; cases hz; exact ⟨st_of (x35 _ _ upd_same), b3, b2⟩
      | 2, hr', hz => cases hr'; cases hz; exact ⟨st_of (x45 _ _ upd_same), b3, b4⟩
      | 3, hr', hz => cases hr'; cases hz; exact ⟨st_of (x5 _ _ upd_same), b1, b4⟩
      | i + 4, hr', hz => cases hr'
def spBsh (K : PySem.W.Frag) (n : Nat) : Sp := fun vs H Q _ => ∃ (q p : Addr) (B : Blk) (a b : Pt), vs = [.ref q, .ref p] ∧ Bl K n H q B ∧ Pc K n H p a b ∧ RetO K (metV a b (cutAll unit2 (rows2 (hts B a) (hts B b)))) H Q
abbrev sBsh : Stmt := top 25
theorem scBsh : FnScope ["block", "piece", "place"] ["block", "piece"] (defScope sBsh) := ⟨rfl, rfl, rfl, by decide +kernel, rfl, by decide +kernel, by decide +kernel⟩
theorem ok_bsh (F : FnP K "block_shares" sBsh f fd) (O_met_shares : Own P w K mg base 5 "met_shares" ["piece", "rows"] (spMet K m N)) (O_block_heights : Own P w K mg base 1 "block_heights" ["block", "place"] (spHts K n)) (hm : n + 1 ≤ m) : FnOk P w K mg base CX0 6 f fd ["block", "piece"] (spBsh K n) := by
  have nd := scBsh.nd
  refine F.ok scBsh (fun vs H Q E h => ?_) (fun cdv A outer s H vs Q E hr h => ⟨_, PSs.nox (pss_one (ps_ret (Hs.pe_own O_met_shares hr (by first | decide | omega) (by rfl) (pa_cons (pv 1) (pa_cons (pe_lc (own := [("place", 2)]) rfl nd (pi_tup (pv 1)) (blkOk_by (N := ["block", "piece", "place"]) (sc := defScope (Hs.top 25)) (by decide +kernel)) (fun _ _ _ _ _ => (pg_name (i := 2) nd rfl (Or.inl rfl))) (fun _ _ _ _ _ => pts_nil) (fun _ _ _ _ _ => (Hs.pe_own O_block_heights hr (by first | decide | omega) (by rfl) (pa_cons (pv 0) (pa_cons (pv 2) pa_nil))))) pa_nil))))), ?_⟩)
  · obtain ⟨q, p, B, a, b, rfl, _⟩ := h
    rfl
  · obtain ⟨q, p, B, a, b, rfl, hq, hp, ret⟩ := h
    obtain ⟨pa, pb, hpp, ha, hb⟩ := id hp
    refine ⟨_, rfl, ?_⟩
    refine elu_lcT (K := K) (xs := [.ref pa, .ref pb]) (us := [(hts B a).map V.int, (hts B b).map V.int]) (σ := [some (.ref q), some (.ref p), none]) (ev_var rfl) hpp (by simp) rfl (fun _ => rfl) (fun i x u H1 e1 hx hu => ?_) H (Ex.refl _) _ fun tl ts H1 ntl e1 htl hts' => ?_
    · match i, hx, hu with
      | 0, hx, hu => cases hx; cases hu; exact eu_call (ea_cons (ev_var rfl) (ea_cons (ev_var rfl) ea_nil)) fun H2 e2 Q' q' E' => ⟨q, pa, B, a, rfl, hq.ext (e1.trans e2), ha.ext (e1.trans e2), q'⟩
      | 1, hx, hu => cases hx; cases hu; exact eu_call (ea_cons (ev_var rfl) (ea_cons (ev_var rfl) ea_nil)) fun H2 e2 Q' q' E' => ⟨q, pb, B, b, rfl, hq.ext (e1.trans e2), hb.ext (e1.trans e2), q'⟩
      | i + 2, hx, hu => cases hx
    · obtain ⟨t1, t2, rfl⟩ : ∃ t1 t2, ts = [t1, t2] := match ts, hts'.1 with
        | [t1, t2], _ => ⟨t1, t2, rfl⟩
      exact ⟨p, tl, t1, t2, a, b, n, _, _, rfl, hp.ext e1, sq_of htl, st_of (hts'.2 0 t1 _ rfl rfl), st_of (hts'.2 1 t2 _ rfl rfl), rfl, by show 4 ≤ 6; decide, fun z hz => (hts_bd hq.2 ha.2 z hz).mono hm, fun z hz => (hts_bd hq.2 hb.2 z hz).mono hm, ret.go' e1⟩
end
end Hs
namespace Hs
open PySem PySem.Spec PyProof.Rows L2 Evl
/-! ### one of a list, a block that is drawn -/
def spOne (K : PySem.W.Frag) : Sp := fun vs H Q _ => ∃ (b l a : Addr) (ns : List Int) (n : Nat) (xs : List V), vs = [.ref b, .ref a] ∧ BagAt H b l ns n ∧ n < 900000 ∧ H a = some (.lst xs) ∧ a ≠ b ∧ 0 < xs.length ∧ xs.length ≤ 1000 ∧
  ∀ (v : V) (H' : Hp), v ∈ xs → BagAt H' b l ns (n + 1) → But H H' b → Q v H'
def NearB (B : Blk) : Prop := (B.left.natAbs ≤ 1000000 ∧ B.low.natAbs ≤ 1000000) ∧ B.right.natAbs ≤ 1000000 ∧ B.high.natAbs ≤ 1000000
def spBlock : Sp := fun vs H Q _ => ∃ (b l g : Addr) (ns : List Int) (n : Nat) (w x y : Int), vs = [.ref b, .ref g] ∧ BagAt H b l ns n ∧ n < 800000 ∧ H g = some (.tup [.int w, .int x, .int y]) ∧ Grid w x y ∧
  ∀ (t : Addr) (B : Blk) (H' : Hp), Vb B → NearB B → H' t = some (.tup (blV B)) → BagAt H' b l ns (n + 8) → But H H' b → Q (.ref t) H'
section
variable {K : PySem.W.Frag} {σ : L2.St} {H : Hp} {tl : TE} {tu tz : TS} {D : Ends}
theorem q_forNTn {xs : List V} {j : Nat} (h : EvU tl σ H xs) (Pv : Addr → Nat → L2.St → Hp → Prop) (h0 : ∀ p H1, H p = none → Ex H H1 → H1 p = some (.tup xs) → Pv p 0 σ H1) (hl : ∀ p i σ' H', i ≤ xs.length → Pv p i σ' H' → SqT K H' p xs)
    (hs : ∀ p i x σ' H', xs[i]? = some x → Pv p i σ' H' → tu { D with nx := Pv p (i + 1), ct := Pv p (i + 1), bk := tz D } (σ'.set j (some x)) H') (hd : ∀ p σ' H', Pv p xs.length σ' H' → tz D σ' H') : tSeq (tFor (iTup K tl) (gName j) tu) tz D σ H := by
  refine h H (Ex.refl H) _ fun p H1 hp e1 h1 => ⟨p, rfl, ⟨xs, st_of h1⟩, ?_⟩
  refine for_it (D := { D with nx := tz D }) (walk_tup (K := K) (a := p) (xs := xs)) (Pv p) (h0 p H1 hp e1 h1) (fun i σ' H' hi q => hl p i σ' H' hi q) (fun i x σ' H' H'' hi q y => ?_) (hd p)
  obtain ⟨rfl, hx⟩ := y
  exact hs p i x σ' _ hx q
end
section
variable {P : Program} {w : World} {K : PySem.W.Frag} {mg : Str → Option Value} {base : Heap} {f : Addr} {fd : FuncData}
abbrev sOne : Stmt := top 29
theorem scOne : FnScope ["_law_bag_here", "_law_some"] ["_law_bag_here", "_law_some"] (defScope sOne) := ⟨rfl, rfl, rfl, by decide +kernel, rfl, by decide +kernel, by decide +kernel⟩
theorem ok_one (F : FnP K "_law_one" sOne f fd) (O__law_pull : Own P w K mg base 1 "_law_pull" ["_law_bag_here", "_law_many"] spPull) (g_len : mg "len" = none) : FnOk P w K mg base CX0 2 f fd ["_law_bag_here", "_law_some"] (spOne K) := by
  have nd := scOne.nd
  refine F.ok scOne (fun vs H Q E h => ?_) (fun cdv A outer s H vs Q E hr h => ⟨_, PSs.nox (pss_one (ps_ret (pe_ix (r := rIxL K) ix_list (pv 1) (Hs.pe_own O__law_pull hr (by first | decide | omega) (by rfl) (pa_cons (pv 0) (pa_cons (pe_callB (r := Evl.rLenS K) call_len_seq (by rfl) g_len PySem.boot_len (pa_cons (pv 1) pa_nil)) pa_nil))) (fun _ _ => rfl)))), ?_⟩)
  · obtain ⟨b, l, a, ns, n, xs, rfl, _⟩ := h
    rfl
  · obtain ⟨b, l, a, ns, n, xs, rfl, B, hn, ha, hne, h0, h1, k⟩ := h
    refine ⟨_, rfl, _, rfl, _, rfl, a, xs, rfl, .inl (sq_of ha), b, l, ns, n, _, rfl, B, by omega, by omega, by omega, fun v H1 v0 v1 B1 b1 => ?_⟩
    have hi : v.toNat < xs.length := by omega
    have hat : atI xs v = some xs[v.toNat] := by
      have e : ((v.toNat : Nat) : Int) = v := by omega
      have q := atI_nat (xs := xs) (j := v.toNat) (List.getElem?_eq_getElem hi)
      rw [e] at q
      exact q
    exact ⟨a, xs, v, _, rfl, rfl, sq_of (b1 _ _ ha hne), hat, k _ H1 (List.getElem_mem hi) B1 b1⟩
abbrev sBlock : Stmt := top 33
theorem scBlock : FnScope ["_law_bag_here", "_law_grid_here", "_law_left", "_law_low", "_law_found", "_law_begin"] ["_law_bag_here", "_law_grid_here"] (defScope sBlock) := ⟨rfl, rfl, rfl, by decide +kernel, rfl, by decide +kernel, by decide +kernel⟩
theorem ok_block (F : FnP K "_law_block" sBlock f fd) (O__law_pull : Own P w K mg base 1 "_law_pull" ["_law_bag_here", "_law_many"] spPull) (O__law_spot : Own P w K mg base 2 "_law_spot" ["_law_bag_here", "_law_grid_here"] spSpot) (g_min : mg "min" = none) : FnOk P w K mg base CX0 3 f fd ["_law_bag_here", "_law_grid_here"] spBlock := by
  have nd := scBlock.nd
  refine F.ok scBlock (fun vs H Q E h => ?_) (fun cdv A outer s H vs Q E hr h => ⟨_, PSs.nox (pss_cons (ps_asg (Hs.pe_own O__law_spot hr (by first | decide | omega) (by rfl) (pa_cons (pv 0) (pa_cons (pv 1) pa_nil))) (pg_tup rfl (pgs_cons (pg_name (i := 2) nd rfl (.inl rfl)) (pgs_cons (pg_name (i := 3) nd rfl (.inl rfl)) pgs_nil))))
  (pss_cons (ps_set (i := 4) nd rfl (.inl rfl) (pe_lst pa_nil))
  (pss_cons (ps_for PassesOwn.never rfl (pi_tup (pe_tup (pa_cons (pv 2) (pa_cons (pv 3) pa_nil)))) (pg_name (i := 5) nd rfl (.inl rfl)) (pss_one (ps_expr (pe_bm PySem.F.plainAttrs_list PySem.F.slot_list_append PySem.F.type_list_append mt_append (pv 4) (pa_cons (pe_callB (call_min2 rfl) (by rfl) g_min (by decide +kernel) (pa_cons (pe_op op_pow pe_int pe_int) (pa_cons (pe_op op_add (pv 5) (pe_ix (r := rIxL K) ix_list (pe_lst (pa_cons pe_int (pa_cons (Hs.pe_own O__law_pull hr (by first | decide | omega) (by rfl) (pa_cons (pv 0) (pa_cons pe_int pa_nil))) (pa_cons (Hs.pe_own O__law_pull hr (by first | decide | omega) (by rfl) (pa_cons (pv 0) (pa_cons (pe_op op_add (pe_ix (r := rIxT K) ix_tup (pv 1) pe_int (fun _ _ => rfl)) pe_int) pa_nil))) pa_nil)))) (Hs.pe_own O__law_pull hr (by first | decide | omega) (by rfl) (pa_cons (pv 0) (pa_cons pe_int pa_nil))) (fun _ _ => rfl))) pa_nil))) pa_nil)))))
  (pss_one (ps_ret (pe_tup (pa_cons (pv 2) (pa_cons (pv 3) (pa_cons (pe_ix (r := rIxL K) ix_list (pv 4) pe_int (fun _ _ => rfl)) (pa_cons (pe_ix (r := rIxL K) ix_list (pv 4) pe_int (fun _ _ => rfl)) pa_nil)))))))))), ?_⟩)
  · obtain ⟨b, l, g, ns, n, w, x, y, rfl, _⟩ := h
    rfl
  · obtain ⟨b, l, g, ns, n, w, x, y, rfl, B, hn, hg, G, k⟩ := h
    refine ⟨_, rfl, _, rfl, b, l, g, ns, n, w, x, y, rfl, B, by omega, hg, G, fun sp z H1 hz nsp hsp B1 b1 => ?_⟩
    refine ⟨sp, _, rfl, st_of hsp, rfl, _, _, rfl, _, _, rfl, rfl, ?_⟩
    dsimp only [gName]
    refine q_asgL (xs := []) (el_lst ea_nil (by simp)) fun fl H2 nfl e2 hfl => ?_
    have B2 := B1.ext (m := n + 2) e2 (Nat.le_refl _)
    have g2 := e2 _ _ (b1.tup B hg)
    have nfb : fl ≠ b := bag_ne B1 nfl
    have nfl' : fl ≠ l := Ne.symm (ne_of_none B1.ls nfl)
    have k12 : But H H2 b := b1.ex e2
    refine q_forNTn (K := K) (xs := [.int z.1, .int z.2]) (eu_tup (ea_cons (ev_var rfl) (ea_cons (ev_var rfl) ea_nil)) (by simp)) (fun p i σ' H' => H2 p = none ∧ H' p = some (.tup [.int z.1, .int z.2]) ∧ BagAt H' b l ns (n + 2 + 3 * i) ∧ But H H' b ∧ H' g = some (.tup [.int w, .int x, .int y]) ∧ ∃ (v : Option V) (fs : List Int), σ' = [some (.ref b), some (.ref g), some (.int z.1), some (.int z.2), some (.ref fl), v] ∧ H' fl = some (.lst (fs.map V.int)) ∧ fs.length = i ∧ (∀ (j : Nat) (c d : Int), fs[j]? = some d → [z.1, z.2][j]? = some c → c ≤ d ∧ d.natAbs ≤ 1000000)) ?_ ?_ ?_ ?_
    · intro p H3 np e3 hp
      exact ⟨np, hp, B2.ext e3 (by omega), k12.ex e3, e3 _ _ g2, none, [], rfl, e3 _ _ hfl, rfl, fun j c d h => by cases h⟩
    · rintro p i σ' H' _ ⟨_, hp, _⟩
      exact st_of hp
    · rintro p i c σ' H' hc ⟨np, hp, Bi, ki, gi, v, fs, rfl, hfs, hlen, hfa⟩
      obtain ⟨cz, hcz, rfl⟩ : ∃ cz : Int, [z.1, z.2][i]? = some cz ∧ c = .int cz := by
        match i, hc with
        | 0, hc => exact ⟨z.1, rfl, (Option.some.inj hc).symm⟩
        | 1, hc => exact ⟨z.2, rfl, (Option.some.inj hc).symm⟩
      have cb : cz.natAbs ≤ 1000000 := by
        match i, hcz with
        | 0, hcz => cases hcz; exact hz.1
        | 1, hcz => cases hcz; exact hz.2
      have hi2 : i < 2 := (List.getElem?_eq_some_iff.mp hcz).1
      obtain ⟨⟨w0, w1⟩, _, _⟩ := G
      refine ⟨_, rfl, .inl ⟨rfl, _, sq_of hfs⟩, ?_⟩
      refine ⟨_, _, rfl, rfl, ⟨by decide, by decide, by decide⟩, _, rfl, _, rfl, b, l, ns, _, 3, rfl, Bi, by omega, by decide, by decide, fun u1 H3 u10 u11 B3 b3 => ⟨_, rfl, _, rfl, g, _, 0, _, rfl, rfl, st_of (b3.tup Bi gi), rfl, _, _, rfl, rfl, b, l, ns, _, _, rfl, B3, by omega, by omega, by omega, fun u2 H4 u20 u21 B4 b4 => ⟨sz_of (by simp), fun tl htl => ⟨_, rfl, b, l, ns, _, 3, rfl, B4.ext (Ex.new htl) (Nat.le_refl _), by omega, by decide, by decide, fun u3 H5 u30 u31 B5 b5 => ?_⟩⟩⟩⟩
      obtain ⟨ad, hat, ad0, ad1⟩ : ∃ ad : Int, atI [V.int 0, .int u1, .int u2] u3 = some (.int ad) ∧ 0 ≤ ad ∧ ad ≤ 100 := by
        obtain rfl | rfl | rfl : u3 = 0 ∨ u3 = 1 ∨ u3 = 2 := by omega
        · exact ⟨0, rfl, by decide, by decide⟩
        · exact ⟨u1, rfl, by omega, by omega⟩
        · exact ⟨u2, rfl, by omega, by omega⟩
      have eT := Ex.new (o := .lst [V.int 0, .int u1, .int u2]) htl
      have k35 : But H' H5 b := ((b3.trans b4).ex eT).trans b5
      have t5 := b5 _ _ (upd_same (H := H4) (a := tl) (o := .lst [V.int 0, .int u1, .int u2])) (bag_ne B4 htl)
      have f5 := k35 _ _ hfs nfb
      have t6 : (10 : Int) ^ Int.toNat 6 = 1000000 := by decide
      refine ⟨tl, _, u3, .int ad, rfl, rfl, sq_of t5, hat, _, _, rfl, rfl, _, _, rfl, fl, _, _, rfl, rfl, f5, sz_lt (by rw [List.length_map]; omega), ?_⟩
      refine ⟨np, ?_, bag_upd (B5.ext (Ex.refl _) (by omega)) (Ne.symm nfb) (Ne.symm nfl'), fun a o ha hb => ?_, ?_, _, fs ++ [if cz + ad < (10 : Int) ^ Int.toNat 6 then cz + ad else (10 : Int) ^ Int.toNat 6], rfl, by rw [upd_same, List.map_append] <;> rfl, by rw [List.length_append, hlen] <;> rfl, fun j c d hd hc' => ?_⟩
      · rw [upd_ne (ne_of (k35.tup Bi hp) f5 (by intro z; cases z))]
        exact k35.tup Bi hp
      · have hb2 : a ≠ fl := fun q => by
          rw [q, b1.fresh B1 nfl] at ha
          cases ha
        rw [upd_ne hb2]
        exact k35 _ _ (ki _ _ ha hb) hb
      · rw [upd_ne (ne_of (k35.tup Bi gi) f5 (by intro z; cases z))]
        exact k35.tup Bi gi
      · by_cases hj : j < fs.length
        · rw [List.getElem?_append_left hj] at hd
          exact hfa j c d hd hc'
        · rw [List.getElem?_append_right (by omega)] at hd
          have e0 : j - fs.length = 0 := by
            have : j - fs.length < 1 := (List.getElem?_eq_some_iff.mp hd).1
            omega
          have ej : j = i := by omega
          subst ej
          rw [e0] at hd
          rw [hcz] at hc'
          cases hc'
          have ed := (Option.some.inj hd).symm
          rw [t6] at ed
          subst ed
          split <;> omega
    · rintro p σ' H' ⟨np, hp, Bi, ki, gi, v, fs, rfl, hfs, hlen, hfa⟩
      obtain ⟨d1, d2, rfl⟩ : ∃ d1 d2, fs = [d1, d2] := match fs, hlen with
        | [d1, d2], _ => ⟨d1, d2, rfl⟩
      have q1 := hfa 0 z.1 d1 rfl rfl
      have q2 := hfa 1 z.2 d2 rfl rfl
      refine s_retU (xs := blV ⟨z.1, z.2, d1, d2⟩) (eu_tup (ea_cons (ev_var rfl) (ea_cons (ev_var rfl) (ea_cons (ev_ix rfl hfs rfl) (ea_cons (ev_ix rfl hfs rfl) ea_nil)))) (by show 4 ≤ 100000; decide)) fun t H3 nt e3 ht => ?_
      exact k t ⟨z.1, z.2, d1, d2⟩ H3 ⟨q1.1, q2.1⟩ ⟨hz, q1.2, q2.2⟩ ht (Bi.ext e3 (by show n + 2 + 3 * 2 ≤ n + 8; omega)) (ki.ex e3)
end
end Hs
namespace Hs
open PySem PySem.Spec PyProof.Rows L2 Evl
/-! ### led a way -/
def wayV : Way → List V
  | .move x y => [.str "move", .int x, .int y]
  | .turn => [.str "turn"]
  | .mirror => [.str "mirror"]
  | .stretch k => [.str "stretch", .int k]
def BdW : Way → Prop
  | .move x y => Bd 30 x ∧ Bd 30 y
  | .stretch k => 0 < k ∧ Bd 20 k
  | _ => True
theorem BdW.ok {t : Way} (h : BdW t) : t.ok := by
  cases t with
  | stretch k => exact h.1
  | _ => trivial
theorem bd_add2 {n : Nat} {i j : Int} (hn : 20 ≤ n) (hi : Bd n i) (hj : Bd 30 j) : Bd (n + 20) (i + j) := (hi.mono (show n ≤ n + 19 by omega)).add (hj.mono (show 30 ≤ n + 19 by omega))
theorem bd_led {t : Way} (ht : BdW t) {n : Nat} (hn : 20 ≤ n) {p : Pt} (hp : Bd n p.1 ∧ Bd n p.2) : Bd (n + 20) (t.led p).1 ∧ Bd (n + 20) (t.led p).2 := by
  obtain ⟨h1, h2⟩ := hp
  cases t with
  | move x y => exact ⟨bd_add2 hn h1 ht.1, bd_add2 hn h2 ht.2⟩
  | turn => exact ⟨(by show Bd _ (0 - p.2); rw [Int.zero_sub]; exact h2.neg.mono (by omega)), h1.mono (by omega)⟩
  | mirror => exact ⟨(by show Bd _ (0 - p.1); rw [Int.zero_sub]; exact h1.neg.mono (by omega)), h2.mono (by omega)⟩
  | stretch k => exact ⟨h1.mul ht.2, h2.mul ht.2⟩
theorem bd_ledB {t : Way} (ht : BdW t) {n : Nat} (hn : 20 ≤ n) {B : Blk} (hB : BdB n B) : BdB (n + 20) (t.ledB B) := by
  obtain ⟨h1, h2, h3, h4⟩ := hB
  exact box_bd (bd_led ht hn (p := (B.left, B.low)) ⟨h1, h2⟩) (bd_led ht hn (p := (B.right, B.high)) ⟨h3, h4⟩)
theorem Pl.mono {K : PySem.W.Frag} {n m : Nat} {H : Hp} {p : Addr} {x : Pt} (h : Pl K n H p x) (l : n ≤ m) : Pl K m H p x := ⟨h.1, h.2.1.mono l, h.2.2.mono l⟩
theorem Pc.mono {K : PySem.W.Frag} {n m : Nat} {H : Hp} {p : Addr} {x y : Pt} (h : Pc K n H p x y) (l : n ≤ m) : Pc K m H p x y := by
  obtain ⟨a, b, h1, h2, h3⟩ := h
  exact ⟨a, b, h1, h2.mono l, h3.mono l⟩
theorem Bl.mono {K : PySem.W.Frag} {n m : Nat} {H : Hp} {p : Addr} {x : Blk} (h : Bl K n H p x) (l : n ≤ m) : Bl K m H p x := ⟨h.1, h.2.1.mono l, h.2.2.1.mono l, h.2.2.2.1.mono l, h.2.2.2.2.mono l⟩
section
variable {σ : L2.St} {H : Hp} {K : PySem.W.Frag}
theorem eu_if {b : Bool} {t : TT} {ta tb : TE} {xs : List V} (h : EvT t σ H b) (h1 : b = true → EvU ta σ H xs) (h2 : b = false → EvU tb σ H xs) : EvU (tIf t ta tb) σ H xs := fun H1 e Q q => h H1 e _ fun H2 e2 => by
  cases b with
  | true =>
    rw [if_pos rfl]
    exact h1 rfl H2 (e.trans e2) Q fun p H3 hp e3 h3 => q p H3 (fresh_back e2 hp) (e2.trans e3) h3
  | false =>
    rw [if_neg (by decide)]
    exact h2 rfl H2 (e.trans e2) Q fun p H3 hp e3 h3 => q p H3 (fresh_back e2 hp) (e2.trans e3) h3
theorem eu_sl {te : TE} {tl th : TO} {a : Addr} {xs : List V} {lo hi : Option Int} (h : Ev te σ H (.ref a)) (h1 : EvO tl σ H lo) (h2 : EvO th σ H hi) (hs : SqT K H a xs) (hw : ¬ (HT.sIx xs.length 0 lo = 0 ∧ HT.sIx xs.length xs.length hi = xs.length)) : EvU (tSl (rSlT K) te tl th) σ H (cutV xs lo hi) := fun H1 e _ q =>
  h H1 e _ fun H2 e2 => h1 H2 (e.trans e2) _ fun H3 e3 => h2 H3 ((e.trans e2).trans e3) _ fun H4 e4 =>
    ⟨a, xs, rfl, ex_t (((e.trans e2).trans e3).trans e4) hs, hw, fun p hp => q p _ (fresh_back ((e2.trans e3).trans e4) hp) (((e2.trans e3).trans e4).trans (Ex.new hp)) upd_same⟩
theorem eu_callU {sp : Sp} {dvs xs ys : List V} {E : XK} {t1 t2 : TE} {u : V} (h1 : Ev t1 σ H u) (h2 : EvU t2 σ H ys) (hs : ∀ p H1, Ex H H1 → H1 p = some (.tup ys) → ∀ Q : VK, RetU xs H1 Q → ∀ E : XK, sp ([u, .ref p] ++ dvs) H1 Q E) : EvU (tCall sp dvs E (tCons t1 (tCons t2 tNil))) σ H xs := fun H1 e Q q =>
  h1 H1 e _ fun H2 e2 => h2 H2 (e.trans e2) _ fun p H3 hp e3 h3 => hs p H3 ((e.trans e2).trans e3) h3 Q (fun r H4 hr e4 h4 => q r H4 (fresh_back (e2.trans e3) hr) ((e2.trans e3).trans e4) h4) E
end
def spLed (K : PySem.W.Frag) : Sp := fun vs H Q _ => ∃ (q p : Addr) (t : Way) (x : Pt), vs = [.ref q, .ref p] ∧ SqT K H q (wayV t) ∧ BdW t ∧ Pl K 80 H p x ∧ RetU (prV (t.led x)) H Q
def spLedB (K : PySem.W.Frag) : Sp := fun vs H Q _ => ∃ (q p : Addr) (t : Way) (B : Blk), vs = [.ref q, .ref p] ∧ SqT K H q (wayV t) ∧ BdW t ∧ Bl K 80 H p B ∧ RetU (blV (t.ledB B)) H Q
theorem s_parUU {σ : L2.St} {H : Hp} {D : Ends} {i j : Nat} {t1 t2 : TE} {xs ys : List V} (h1 : EvU t1 σ H xs) (h2 : ∀ H1, Ex H H1 → EvU t2 σ H1 ys) (k : ∀ p r H1, Ex H H1 → H1 p = some (.tup xs) → H1 r = some (.tup ys) → D.nx ((σ.set i (some (.ref p))).set j (some (.ref r))) H1) : tPar i j (tCons t1 (tCons t2 tNil)) D σ H :=
  h1 H (Ex.refl H) _ fun p H1 hp e1 h => h2 H1 e1 H1 (Ex.refl H1) _ fun r H2 hr e2 h' => ⟨_, _, rfl, k p r H2 (e1.trans e2) (e2 _ _ h) h'⟩
theorem q_parUU {σ : L2.St} {H : Hp} {D : Ends} {tz : TS} {i j : Nat} {t1 t2 : TE} {xs ys : List V} (h1 : EvU t1 σ H xs) (h2 : ∀ H1, Ex H H1 → EvU t2 σ H1 ys) (k : ∀ p r H1, Ex H H1 → H1 p = some (.tup xs) → H1 r = some (.tup ys) → tz D ((σ.set i (some (.ref p))).set j (some (.ref r))) H1) : tSeq (tPar i j (tCons t1 (tCons t2 tNil))) tz D σ H := s_parUU (D := { D with nx := tz D }) h1 h2 k
section
variable {P : Program} {w : World} {K : PySem.W.Frag} {mg : Str → Option Value} {base : Heap} {f : Addr} {fd : FuncData}
abbrev sLed : Stmt := top 34
theorem scLed : FnScope ["_law_way", "_law_place"] ["_law_way", "_law_place"] (defScope sLed) := ⟨rfl, rfl, rfl, by decide +kernel, rfl, by decide +kernel, by decide +kernel⟩
theorem ok_led (F : FnP K "_law_led" sLed f fd) : FnOk P w K mg base CX0 1 f fd ["_law_way", "_law_place"] (spLed K) := by
  have nd := scLed.nd
  refine F.ok scLed (fun vs H Q E h => ?_) (fun cdv A outer s H vs Q E hr h => ⟨_, PSs.nox (pss_cons (ps_if (pt_cmpR op_eq (pe_ix (r := rIxT K) ix_tup (pv 0) pe_int (fun _ _ => rfl)) pe_str (nomark _)) (pss_one (ps_ret (pe_tup (pa_cons (pe_op op_add (pe_ix (r := rIxT K) ix_tup (pv 1) pe_int (fun _ _ => rfl)) (pe_ix (r := rIxT K) ix_tup (pv 0) pe_int (fun _ _ => rfl))) (pa_cons (pe_op op_add (pe_ix (r := rIxT K) ix_tup (pv 1) pe_int (fun _ _ => rfl)) (pe_ix (r := rIxT K) ix_tup (pv 0) pe_int (fun _ _ => rfl))) pa_nil))))) pss_nil)
  (pss_cons (ps_if (pt_cmpR op_eq (pe_ix (r := rIxT K) ix_tup (pv 0) pe_int (fun _ _ => rfl)) pe_str (nomark _)) (pss_one (ps_ret (pe_tup (pa_cons (pe_op op_sub pe_int (pe_ix (r := rIxT K) ix_tup (pv 1) pe_int (fun _ _ => rfl))) (pa_cons (pe_ix (r := rIxT K) ix_tup (pv 1) pe_int (fun _ _ => rfl)) pa_nil))))) pss_nil)
  (pss_one (ps_ret (pe_ifExp (pt_cmpR op_eq (pe_ix (r := rIxT K) ix_tup (pv 0) pe_int (fun _ _ => rfl)) pe_str (nomark _)) (pe_tup (pa_cons (pe_op op_sub pe_int (pe_ix (r := rIxT K) ix_tup (pv 1) pe_int (fun _ _ => rfl))) (pa_cons (pe_ix (r := rIxT K) ix_tup (pv 1) pe_int (fun _ _ => rfl)) pa_nil))) (pe_tup (pa_cons (pe_op op_mulW (pe_ix (r := rIxT K) ix_tup (pv 1) pe_int (fun _ _ => rfl)) (pe_ix (r := rIxT K) ix_tup (pv 0) pe_int (fun _ _ => rfl))) (pa_cons (pe_op op_mulW (pe_ix (r := rIxT K) ix_tup (pv 1) pe_int (fun _ _ => rfl)) (pe_ix (r := rIxT K) ix_tup (pv 0) pe_int (fun _ _ => rfl))) pa_nil)))))))), ?_⟩)
  · obtain ⟨q, p, t, x, rfl, _⟩ := h
    rfl
  · obtain ⟨q, p, t, x, rfl, hq, ht, hp, k⟩ := h
    cases t with
    | move dx dy =>
      refine q_when (b := true) (et_is (et_test (ev_op (ev_ixt (v := .str "move") rfl hq rfl) ev_c (rv_eq rfl))) (by decide)) (fun _ H1 e1 => ?_) (fun z => Bool.noConfusion z)
      exact s_retU (eu_tup (ea_cons (ev_op (ev_x1 rfl (hp.ext e1)) (ev_ixt (v := .int dx) rfl (ex_t e1 hq) rfl) rv_I0) (ea_cons (ev_op (ev_x2 rfl (hp.ext e1)) (ev_ixt (v := .int dy) rfl (ex_t e1 hq) rfl) rv_I0) ea_nil)) (by simp)) fun r H3 hr e3 h3 => k r H3 (fresh_back e1 hr) (e1.trans e3) h3
    | turn =>
      refine q_when (b := false) (et_is (et_test (ev_op (ev_ixt (v := .str "turn") rfl hq rfl) ev_c (rv_eq rfl))) (by decide)) (fun z => Bool.noConfusion z) (fun _ H1 e1 => ?_)
      refine q_when (b := true) (et_is (et_test (ev_op (ev_ixt (v := .str "turn") rfl (ex_t e1 hq) rfl) ev_c (rv_eq rfl))) (by decide)) (fun _ H2 e2 => ?_) (fun z => Bool.noConfusion z)
      have e12 := e1.trans e2
      exact s_retU (eu_tup (ea_cons (ev_op ev_c (ev_x2 rfl (hp.ext e12)) rv_I0) (ea_cons (ev_x1 rfl (hp.ext e12)) ea_nil)) (by simp)) fun r H3 hr e3 h3 => k r H3 (fresh_back e12 hr) (e12.trans e3) h3
    | mirror =>
      refine q_when (b := false) (et_is (et_test (ev_op (ev_ixt (v := .str "mirror") rfl hq rfl) ev_c (rv_eq rfl))) (by decide)) (fun z => Bool.noConfusion z) (fun _ H1 e1 => ?_)
      refine q_when (b := false) (et_is (et_test (ev_op (ev_ixt (v := .str "mirror") rfl (ex_t e1 hq) rfl) ev_c (rv_eq rfl))) (by decide)) (fun z => Bool.noConfusion z) (fun _ H2 e2 => ?_)
      have e12 := e1.trans e2
      exact s_retU (eu_if (b := true) (et_is (et_test (ev_op (ev_ixt (v := .str "mirror") rfl (ex_t e12 hq) rfl) ev_c (rv_eq rfl))) (by decide)) (fun _ => eu_tup (ea_cons (ev_op ev_c (ev_x1 rfl (hp.ext e12)) rv_I0) (ea_cons (ev_x2 rfl (hp.ext e12)) ea_nil)) (by simp)) (fun z => Bool.noConfusion z)) fun r H3 hr e3 h3 => k r H3 (fresh_back e12 hr) (e12.trans e3) h3
    | stretch m =>
      refine q_when (b := false) (et_is (et_test (ev_op (ev_ixt (v := .str "stretch") rfl hq rfl) ev_c (rv_eq rfl))) (by decide)) (fun z => Bool.noConfusion z) (fun _ H1 e1 => ?_)
      refine q_when (b := false) (et_is (et_test (ev_op (ev_ixt (v := .str "stretch") rfl (ex_t e1 hq) rfl) ev_c (rv_eq rfl))) (by decide)) (fun z => Bool.noConfusion z) (fun _ H2 e2 => ?_)
      have e12 := e1.trans e2
      exact s_retU (eu_if (b := false) (et_is (et_test (ev_op (ev_ixt (v := .str "stretch") rfl (ex_t e12 hq) rfl) ev_c (rv_eq rfl))) (by decide)) (fun z => Bool.noConfusion z) (fun _ => eu_tup (ea_cons (ev_op (ev_x1 rfl (hp.ext e12)) (ev_ixt (v := .int m) rfl (ex_t e12 hq) rfl) (rv_I (hp.2.1.cmul ht.2))) (ea_cons (ev_op (ev_x2 rfl (hp.ext e12)) (ev_ixt (v := .int m) rfl (ex_t e12 hq) rfl) (rv_I (hp.2.2.cmul ht.2))) ea_nil)) (by simp))) fun r H3 hr e3 h3 => k r H3 (fresh_back e12 hr) (e12.trans e3) h3
abbrev sLedB : Stmt := top 35
theorem scLedB : FnScope ["_law_way", "_law_block_here", "_law_a", "_law_b"] ["_law_way", "_law_block_here"] (defScope sLedB) := ⟨rfl, rfl, rfl, by decide +kernel, rfl, by decide +kernel, by decide +kernel⟩
theorem ok_ledB (F : FnP K "_law_led_block" sLedB f fd) (O__law_led : Own P w K mg base 1 "_law_led" ["_law_way", "_law_place"] (spLed K)) (g_min : mg "min" = none) (g_max : mg "max" = none) : FnOk P w K mg base CX0 2 f fd ["_law_way", "_law_block_here"] (spLedB K) := by
  have nd := scLedB.nd
  refine F.ok scLedB (fun vs H Q E h => ?_) (fun cdv A outer s H vs Q E hr h => ⟨_, PSs.nox (pss_cons (ps_par (i := 2) (j := 3) (by rfl) nd rfl rfl (by decide) rfl rfl (pa_cons (Hs.pe_own O__law_led hr (by first | decide | omega) (by rfl) (pa_cons (pv 0) (pa_cons (pe_slice sl_tup (pv 1) po_none (po_some pe_int)) pa_nil))) (pa_cons (Hs.pe_own O__law_led hr (by first | decide | omega) (by rfl) (pa_cons (pv 0) (pa_cons (pe_slice sl_tup (pv 1) (po_some pe_int) po_none) pa_nil))) pa_nil)) (by rfl))
  (pss_one (ps_ret (pe_tup (pa_cons (pe_callB (call_min2 rfl) (by rfl) g_min (by decide +kernel) (pa_cons (pe_ix (r := rIxT K) ix_tup (pv 2) pe_int (fun _ _ => rfl)) (pa_cons (pe_ix (r := rIxT K) ix_tup (pv 3) pe_int (fun _ _ => rfl)) pa_nil))) (pa_cons (pe_callB (call_min2 rfl) (by rfl) g_min (by decide +kernel) (pa_cons (pe_ix (r := rIxT K) ix_tup (pv 2) pe_int (fun _ _ => rfl)) (pa_cons (pe_ix (r := rIxT K) ix_tup (pv 3) pe_int (fun _ _ => rfl)) pa_nil))) (pa_cons (pe_callB (call_max2 rfl) (by rfl) g_max (by decide +kernel) (pa_cons (pe_ix (r := rIxT K) ix_tup (pv 2) pe_int (fun _ _ => rfl)) (pa_cons (pe_ix (r := rIxT K) ix_tup (pv 3) pe_int (fun _ _ => rfl)) pa_nil))) (pa_cons (pe_callB (call_max2 rfl) (by rfl) g_max (by decide +kernel) (pa_cons (pe_ix (r := rIxT K) ix_tup (pv 2) pe_int (fun _ _ => rfl)) (pa_cons (pe_ix (r := rIxT K) ix_tup (pv 3) pe_int (fun _ _ => rfl)) pa_nil))) pa_nil)))))))), ?_⟩)
  · obtain ⟨q, p, t, x, rfl, _⟩ := h
    rfl
  · obtain ⟨q, p, t, B, rfl, hq, ht, hp, k⟩ := h
    obtain ⟨b1, b2, b3, b4⟩ := hp.2
    refine q_parUU (xs := prV (t.led (B.left, B.low))) (ys := prV (t.led (B.right, B.high))) (eu_callU (ys := prV (B.left, B.low)) (ev_var rfl) (eu_sl (xs := blV B) (lo := none) (hi := some 2) (ev_var rfl) eo_none (eo_some ev_c) hp.1 (fun z => nomatch (show (2 : Nat) = 4 from z.2))) fun r H1 e1 hr' Q' k' E' => ⟨q, r, t, (B.left, B.low), rfl, ex_t e1 hq, ht, ⟨st_of hr', b1, b2⟩, k'⟩) (fun H1 e1 => eu_callU (ys := prV (B.right, B.high)) (ev_var rfl) (eu_sl (xs := blV B) (lo := some 2) (hi := none) (ev_var rfl) (eo_some ev_c) eo_none (ex_t e1 hp.1) (fun z => nomatch (show (2 : Nat) = 0 from z.1))) fun r H2 e2 hr' Q' k' E' => ⟨q, r, t, (B.right, B.high), rfl, ex_t (e1.trans e2) hq, ht, ⟨st_of hr', b3, b4⟩, k'⟩) fun ra rb H2 e2 ha hb => ?_
    refine s_retU (xs := blV (t.ledB B)) (eu_tup (ea_cons (ev_min2 (ev_ixt (xs := prV (t.led (B.left, B.low))) rfl (st_of ha) rfl) (ev_ixt (xs := prV (t.led (B.right, B.high))) rfl (st_of hb) rfl)) (ea_cons (ev_min2 (ev_ixt (xs := prV (t.led (B.left, B.low))) rfl (st_of ha) rfl) (ev_ixt (xs := prV (t.led (B.right, B.high))) rfl (st_of hb) rfl)) (ea_cons (ev_mx2 (ev_ixt (xs := prV (t.led (B.left, B.low))) rfl (st_of ha) rfl) (ev_ixt (xs := prV (t.led (B.right, B.high))) rfl (st_of hb) rfl)) (ea_cons (ev_mx2 (ev_ixt (xs := prV (t.led (B.left, B.low))) rfl (st_of ha) rfl) (ev_ixt (xs := prV (t.led (B.right, B.high))) rfl (st_of hb) rfl)) ea_nil)))) (by show 4 ≤ 100000; decide)) fun r H3 hr e3 h3 => k r H3 (fresh_back e2 hr) (e2.trans e3) h3
end
end Hs
namespace Hs
open PySem PySem.Spec PyProof.Rows L2 Evl
/-! ### four answers about a block and two pieces -/
/-- the value that tells o -/
def VO (K : PySem.W.Frag) (H : Hp) (v : V) (o : Option (Pt × Pt)) : Prop := match o with
  | none => v = .non
  | some (x, y) => ∃ p a b : Addr, v = .ref p ∧ SqT K H p [.ref a, .ref b] ∧ SqT K H a (prV x) ∧ SqT K H b (prV y)
theorem But.sqt {K : PySem.W.Frag} {H H' : Hp} {b l p : Addr} {ns : List Int} {n : Nat} {xs : List V} (k : But H H' b) (B : BagAt H b l ns n) (h : SqT K H p xs) : SqT K H' p xs := by
  rcases h with (h | ⟨o, h⟩) | h
  · exact st_of (k.tup B h)
  · obtain ⟨ys, hb⟩ := bag_lst B
    exact .inl (.inr ⟨o, k _ _ h fun z => by
      rw [z, hb] at h
      cases h⟩)
  · exact .inr h
theorem But.pl {K : PySem.W.Frag} {H H' : Hp} {b l p : Addr} {ns : List Int} {n m : Nat} {x : Pt} (k : But H H' b) (B : BagAt H b l ns n) (h : Pl K m H p x) : Pl K m H' p x := ⟨k.sqt B h.1, h.2⟩
theorem But.pc {K : PySem.W.Frag} {H H' : Hp} {b l p : Addr} {ns : List Int} {n m : Nat} {x y : Pt} (k : But H H' b) (B : BagAt H b l ns n) (h : Pc K m H p x y) : Pc K m H' p x y := by
  obtain ⟨a, c, h1, h2, h3⟩ := h
  exact ⟨a, c, k.sqt B h1, k.pl B h2, k.pl B h3⟩
theorem But.bl {K : PySem.W.Frag} {H H' : Hp} {b l p : Addr} {ns : List Int} {n m : Nat} {x : Blk} (k : But H H' b) (B : BagAt H b l ns n) (h : Bl K m H p x) : Bl K m H' p x := ⟨k.sqt B h.1, h.2⟩
theorem But.vo {K : PySem.W.Frag} {H H' : Hp} {b l : Addr} {ns : List Int} {n : Nat} {v : V} {o : Option (Pt × Pt)} (k : But H H' b) (B : BagAt H b l ns n) (h : VO K H v o) : VO K H' v o := by
  cases o with
  | none => exact h
  | some z =>
    obtain ⟨p, a, c, rfl, h1, h2, h3⟩ := h
    exact ⟨p, a, c, rfl, k.sqt B h1, k.sqt B h2, k.sqt B h3⟩
theorem VO.ext {K : PySem.W.Frag} {H H' : Hp} {v : V} {o : Option (Pt × Pt)} (h : VO K H v o) (e : Ex H H') : VO K H' v o := by
  cases o with
  | none => exact h
  | some z =>
    obtain ⟨p, a, c, rfl, h1, h2, h3⟩ := h
    exact ⟨p, a, c, rfl, ex_t e h1, ex_t e h2, ex_t e h3⟩
theorem VO.sm {K : PySem.W.Frag} {H : Hp} {u v : V} {o : Option (Pt × Pt)} (h : VO K H u o) (h' : VO K H v o) : Sm K H 3 u v := by
  cases o with
  | none =>
    cases h
    cases h'
    exact .inl ⟨rfl, rfl⟩
  | some z =>
    obtain ⟨p, a, c, rfl, h1, h2, h3⟩ := h
    obtain ⟨p', a', c', rfl, h1', h2', h3'⟩ := h'
    refine .inr ⟨p, p', _, _, rfl, rfl, .inr ⟨h1, h1'⟩, rfl, by simp, fun i x y hx hy => ?_⟩
    match i, hx, hy with
    | 0, hx, hy => cases hx; cases hy; exact sm_tupF (d := 0) h2 h2' rfl (by show 2 ≤ 1000; decide)
    | 1, hx, hy => cases hx; cases hy; exact sm_tupF (d := 0) h3 h3' rfl (by show 2 ≤ 1000; decide)
    | i + 2, hx, hy => cases hx
abbrev mB (B : Blk) (a b : Pt) : Option (Pt × Pt) := metV a b (cutAll unit2 (rows2 (hts B a) (hts B b)))
abbrev mP (c d a b : Pt) : Option (Pt × Pt) := metV a b (cutAll unit2 (rows2 (phts c d a) (phts c d b)))
theorem RetO.of {K : PySem.W.Frag} {o : Option (Pt × Pt)} {H : Hp} {Q : VK} (h : ∀ v H2, Ex H H2 → VO K H2 v o → Q v H2) : RetO K o H Q := by
  cases o with
  | none => exact fun H2 e2 => h _ H2 e2 rfl
  | some z => exact fun p a b H2 e2 h1 h2 h3 => h _ H2 e2 ⟨p, a, b, rfl, st_of h1, h2, h3⟩
section
variable {K : PySem.W.Frag} {σ : L2.St} {H : Hp}
theorem four4 {tb p1 p2 : Addr} {B : Blk} {a b c d : Pt} {E1 E2 E3 E4 : XK} (g4 : σ[4]? = some (some (.ref tb))) (g5 : σ[5]? = some (some (.ref p1))) (g6 : σ[6]? = some (some (.ref p2))) (hB : Bl K 80 H tb B) (h1 : Pc K 80 H p1 a b) (h2 : Pc K 80 H p2 c d) {Q : VK}
    (q : ∀ r v3 v4 H2, H r = none → Ex H H2 → H2 r = some (.lst [.bl (decide (SatB B a b)), .bl (decide (Sat a b c d)), v3, v4]) → VO K H2 v3 (mB B a b) → VO K H2 v4 (mP c d a b) → Q (.ref r) H2) :
    tLst (tCons (tCall (spBm K 80) [] E1 (tCons (tVar 4) (tCons (tVar 5) tNil))) (tCons (tCall (spPm K 80) [] E2 (tCons (tVar 5) (tCons (tVar 6) tNil))) (tCons (tCall (spBsh K 80) [] E3 (tCons (tVar 4) (tCons (tVar 5) tNil))) (tCons (tCall (spPsh K 80 163) [] E4 (tCons (tVar 6) (tCons (tVar 5) tNil))) tNil)))) σ H Q := by
  refine ⟨_, g4, _, g5, tb, p1, B, a, b, rfl, hB, h1, fun H1 e1 => ?_⟩
  refine ⟨_, g5, _, g6, p1, p2, a, b, c, d, rfl, h1.ext e1, h2.ext e1, fun H2 e2 => ?_⟩
  have e12 := e1.trans e2
  refine ⟨_, g4, _, g5, tb, p1, B, a, b, rfl, hB.ext e12, h1.ext e12, RetO.of fun v3 H3 e3 o3 => ?_⟩
  have e13 := e12.trans e3
  refine ⟨_, g6, _, g5, p2, p1, c, d, a, b, rfl, h2.ext e13, h1.ext e13, RetO.of fun v4 H4 e4 o4 => ?_⟩
  have e14 := e13.trans e4
  refine ⟨sz_of (by simp), fun r hr => ?_⟩
  have e5 := Ex.new (o := .lst [.bl (decide (SatB B a b)), .bl (decide (Sat a b c d)), v3, v4]) hr
  exact q r v3 v4 _ (fresh_back e14 hr) (e14.trans e5) upd_same (o3.ext (e4.trans e5)) (o4.ext e5)
theorem led2 {q p : Addr} {t : Way} {x y : Pt} {n i : Nat} {E1 E2 : XK} (g10 : σ[10]? = some (some (.ref q))) (gi : σ[i]? = some (some (.ref p))) (hq : SqT K H q (wayV t)) (hw : BdW t) (hn : 20 ≤ n) (hn' : n ≤ 80) (hp : Pc K n H p x y) {Q : VK}
    (k : ∀ r H2, Ex H H2 → Pc K (n + 20) H2 r (t.led x) (t.led y) → Q (.ref r) H2) :
    tTup (tCons (tCall (spLed K) [] E1 (tCons (tVar 10) (tCons (tOp (rIxT K) (tVar i) (tC (.int 0))) tNil))) (tCons (tCall (spLed K) [] E2 (tCons (tVar 10) (tCons (tOp (rIxT K) (tVar i) (tC (.int 1))) tNil))) tNil)) σ H Q := by
  obtain ⟨a, b, hp, ha, hb⟩ := hp
  refine ⟨_, g10, _, gi, p, _, 0, .ref a, rfl, rfl, hp, rfl, q, a, t, x, rfl, hq, hw, ha.mono hn', fun ra H1 nra e1 hra => ?_⟩
  refine ⟨_, g10, _, gi, p, _, 1, .ref b, rfl, rfl, ex_t e1 hp, rfl, q, b, t, y, rfl, ex_t e1 hq, hw, (hb.ext e1).mono hn', fun rb H2 nrb e2 hrb => ?_⟩
  refine ⟨sz_of (by simp), fun r hr => ?_⟩
  have e3 := Ex.new (o := .tup [V.ref ra, .ref rb]) hr
  exact k r _ ((e1.trans e2).trans e3) ⟨ra, rb, st_of upd_same, ⟨st_of ((e2.trans e3) _ _ hra), bd_led hw hn ha.2⟩, st_of (e3 _ _ hrb), bd_led hw hn hb.2⟩
theorem s_forRD {D : Ends} {tu : TS} {ta : TA} {j : Nat} (M : Int → Hp → Prop) (h : ∀ k : List V → Hp → Prop, (∀ n H1, M n H1 → k [.int n] H1) → ta σ H k) (Pv : Int → Nat → L2.St → Hp → Prop) (hM : ∀ n H1, M n H1 → (0 ≤ n ∧ n ≤ 100000) ∧ Pv n 0 σ H1)
    (hs : ∀ n (i : Nat) σ' H', (i : Int) < n → Pv n i σ' H' → tu { D with nx := Pv n (i + 1), ct := Pv n (i + 1), bk := D.nx } (σ'.set j (some (.int (i : Int)))) H') (hd : ∀ n σ' H', Pv n n.toNat σ' H' → D.nx σ' H') : tFor (iRng1 ta) (gName j) tu D σ H :=
  h _ fun n H1 m => ⟨n, rfl, by have := (hM n H1 m).1; omega, by have := (hM n H1 m).1; omega, for_range (lo := 0) (n := n.toNat) (Pv n) (hM n H1 m).2 (fun i σ' H' hi p => by
    have e0 : (0 : Int) + (i : Int) = (i : Int) := Int.zero_add _
    show tu { D with nx := Pv n (i + 1), ct := Pv n (i + 1), bk := D.nx } (σ'.set j (some (.int ((0 : Int) + (i : Int))))) H'
    rw [e0]
    exact hs n i σ' H' (by omega) p) (hd n)⟩
end
end Hs
namespace Hs
open PySem PySem.Spec PyProof.Rows L2 Evl
def spLaw (K : PySem.W.Frag) : Sp := fun vs H Q _ => ∃ (a : Addr) (ns : List Int), vs = [.ref a] ∧ SqL K H a (ns.map V.int) ∧ ns.length ≤ 63 ∧ ∀ H', Q (.bl true) H'
theorem Near.bd {z : Pt} (h : Near z) : Bd 20 z.1 ∧ Bd 20 z.2 := ⟨Nat.lt_of_le_of_lt h.1 (by decide), Nat.lt_of_le_of_lt h.2 (by decide)⟩
theorem NearB.bd {B : Blk} (h : NearB B) : BdB 20 B := ⟨Nat.lt_of_le_of_lt h.1.1 (by decide), Nat.lt_of_le_of_lt h.1.2 (by decide), Nat.lt_of_le_of_lt h.2.1 (by decide), Nat.lt_of_le_of_lt h.2.2 (by decide)⟩
/-- a block and two pieces that stand, what is told of them, the bag beside them -/
structure Fig (K : PySem.W.Frag) (H : Hp) (b l : Addr) (ns : List Int) (n m : Nat) (tb p1 p2 r : Addr) (B : Blk) (x y c d : Pt) (v3 v4 : V) : Prop where
  hv : Vb B
  hB : Bl K m H tb B
  h1 : Pc K m H p1 x y
  h2 : Pc K m H p2 c d
  nr : r ≠ b
  hr : H r = some (.lst [.bl (decide (SatB B x y)), .bl (decide (Sat x y c d)), v3, v4])
  o3 : VO K H v3 (mB B x y)
  o4 : VO K H v4 (mP c d x y)
  bag : BagAt H b l ns n
theorem Fig.ex {K : PySem.W.Frag} {H H' : Hp} {b l : Addr} {ns : List Int} {n m : Nat} {tb p1 p2 r : Addr} {B : Blk} {x y c d : Pt} {v3 v4 : V} (F : Fig K H b l ns n m tb p1 p2 r B x y c d v3 v4) (e : Ex H H') : Fig K H' b l ns n m tb p1 p2 r B x y c d v3 v4 := ⟨F.hv, F.hB.ext e, F.h1.ext e, F.h2.ext e, F.nr, e _ _ F.hr, F.o3.ext e, F.o4.ext e, F.bag.ext e (Nat.le_refl _)⟩
theorem Fig.draw {K : PySem.W.Frag} {H H' : Hp} {b l : Addr} {ns : List Int} {n n' m : Nat} {tb p1 p2 r : Addr} {B : Blk} {x y c d : Pt} {v3 v4 : V} (F : Fig K H b l ns n m tb p1 p2 r B x y c d v3 v4) (k : But H H' b) (B' : BagAt H' b l ns n') : Fig K H' b l ns n' m tb p1 p2 r B x y c d v3 v4 := ⟨F.hv, k.bl F.bag F.hB, k.pc F.bag F.h1, k.pc F.bag F.h2, F.nr, k _ _ F.hr F.nr, k.vo F.bag F.o3, k.vo F.bag F.o4, B'⟩
section
variable {P : Program} {w : World} {K : PySem.W.Frag} {mg : Str → Option Value} {base : Heap} {f : Addr} {fd : FuncData}
abbrev sLaw : Stmt := top 36
theorem scLaw : FnScope ["_law_script", "_law_bag_here", "_law_turn", "_law_grid_here", "_law_block_here", "_law_one_here", "_law_two", "_law_due", "_law_step", "_law_ways", "_law_way", "_law_found"] ["_law_script"] (defScope sLaw) := ⟨rfl, rfl, rfl, by decide +kernel, rfl, by decide +kernel, by decide +kernel⟩
theorem ok_law (F : FnP K "law" sLaw f fd) (O__law_bag : Own P w K mg base 1 "_law_bag" ["_law_script"] (spBag K)) (O__law_pull : Own P w K mg base 1 "_law_pull" ["_law_bag_here", "_law_many"] spPull) (O__law_grid : Own P w K mg base 2 "_law_grid" ["_law_bag_here"] spGrid) (O__law_spot : Own P w K mg base 2 "_law_spot" ["_law_bag_here", "_law_grid_here"] spSpot) (O__law_block : Own P w K mg base 3 "_law_block" ["_law_bag_here", "_law_grid_here"] spBlock)
    (O__law_one : Own P w K mg base 2 "_law_one" ["_law_bag_here", "_law_some"] (spOne K)) (O__law_led : Own P w K mg base 1 "_law_led" ["_law_way", "_law_place"] (spLed K)) (O__law_led_block : Own P w K mg base 2 "_law_led_block" ["_law_way", "_law_block_here"] (spLedB K)) (O__law_same : Own P w K mg base 4 "_law_same" ["_law_got", "_law_due"] (spSame K 4)) (O_block_meets : Own P w K mg base 4 "block_meets" ["block", "piece"] (spBm K 80)) (O_pieces_meet : Own P w K mg base 4 "pieces_meet" ["one", "other"] (spPm K 80))
    (O_block_shares : Own P w K mg base 6 "block_shares" ["block", "piece"] (spBsh K 80)) (O_piece_shares : Own P w K mg base 6 "piece_shares" ["other", "piece"] (spPsh K 80 163)) (g_range : mg "range" = none) : FnOk P w K mg base CX0 7 f fd ["_law_script"] (spLaw K) := by
  have nd := scLaw.nd
  refine F.ok scLaw (fun vs H Q E h => ?_) (fun cdv A outer s H vs Q E hr h => ⟨_, PSs.nox (pss_cons (ps_set (i := 1) nd rfl (.inl rfl) (Hs.pe_own O__law_bag hr (by first | decide | omega) (by rfl) (pa_cons (pv 0) pa_nil)))
  (pss_cons (ps_for PassesOwn.never rfl (pi_range1 (by rfl) g_range (pa_cons pe_int pa_nil)) (pg_name (i := 2) nd rfl (.inl rfl)) (pss_cons (ps_set (i := 3) nd rfl (.inl rfl) (Hs.pe_own O__law_grid hr (by first | decide | omega) (by rfl) (pa_cons (pv 1) pa_nil)))
  (pss_cons (ps_set (i := 4) nd rfl (.inl rfl) (Hs.pe_own O__law_block hr (by first | decide | omega) (by rfl) (pa_cons (pv 1) (pa_cons (pv 3) pa_nil))))
  (pss_cons (ps_set (i := 5) nd rfl (.inl rfl) (pe_tup (pa_cons (Hs.pe_own O__law_spot hr (by first | decide | omega) (by rfl) (pa_cons (pv 1) (pa_cons (pv 3) pa_nil))) (pa_cons (Hs.pe_own O__law_spot hr (by first | decide | omega) (by rfl) (pa_cons (pv 1) (pa_cons (pv 3) pa_nil))) pa_nil))))
  (pss_cons (ps_set (i := 6) nd rfl (.inl rfl) (pe_tup (pa_cons (Hs.pe_own O__law_spot hr (by first | decide | omega) (by rfl) (pa_cons (pv 1) (pa_cons (pv 3) pa_nil))) (pa_cons (Hs.pe_own O__law_spot hr (by first | decide | omega) (by rfl) (pa_cons (pv 1) (pa_cons (pv 3) pa_nil))) pa_nil))))
  (pss_cons (ps_set (i := 7) nd rfl (.inl rfl) (pe_lst (pa_cons (Hs.pe_own O_block_meets hr (by first | decide | omega) (by rfl) (pa_cons (pv 4) (pa_cons (pv 5) pa_nil))) (pa_cons (Hs.pe_own O_pieces_meet hr (by first | decide | omega) (by rfl) (pa_cons (pv 5) (pa_cons (pv 6) pa_nil))) (pa_cons (Hs.pe_own O_block_shares hr (by first | decide | omega) (by rfl) (pa_cons (pv 4) (pa_cons (pv 5) pa_nil))) (pa_cons (Hs.pe_own O_piece_shares hr (by first | decide | omega) (by rfl) (pa_cons (pv 6) (pa_cons (pv 5) pa_nil))) pa_nil))))))
  (pss_one (ps_for PassesOwn.never rfl (pi_range1 (by rfl) g_range (pa_cons (pe_op op_add pe_int (Hs.pe_own O__law_pull hr (by first | decide | omega) (by rfl) (pa_cons (pv 1) (pa_cons pe_int pa_nil)))) pa_nil)) (pg_name (i := 8) nd rfl (.inl rfl)) (pss_cons (ps_set (i := 9) nd rfl (.inl rfl) (pe_lst (pa_cons (pe_tup (pa_cons pe_str (pa_cons (pe_op op_sub (Hs.pe_own O__law_pull hr (by first | decide | omega) (by rfl) (pa_cons (pv 1) (pa_cons pe_int pa_nil))) pe_int) (pa_cons (Hs.pe_own O__law_pull hr (by first | decide | omega) (by rfl) (pa_cons (pv 1) (pa_cons (pe_op op_pow pe_int pe_int) pa_nil))) pa_nil)))) (pa_cons (pe_tup (pa_cons pe_str pa_nil)) (pa_cons (pe_tup (pa_cons pe_str pa_nil)) pa_nil)))))
  (pss_cons (ps_set (i := 10) nd rfl (.inl rfl) (Hs.pe_own O__law_one hr (by first | decide | omega) (by rfl) (pa_cons (pv 1) (pa_cons (pe_op op_cat (pv 9) (pe_lst (pa_cons (pe_tup (pa_cons pe_str (pa_cons (pe_op op_add pe_int (Hs.pe_own O__law_pull hr (by first | decide | omega) (by rfl) (pa_cons (pv 1) (pa_cons (pe_ix (r := rIxL K) ix_list (pe_lst (pa_cons pe_int (pa_cons (pe_op op_pow pe_int pe_int) pa_nil))) (Hs.pe_own O__law_pull hr (by first | decide | omega) (by rfl) (pa_cons (pv 1) (pa_cons pe_int pa_nil))) (fun _ _ => rfl)) pa_nil)))) pa_nil))) pa_nil))) pa_nil))))
  (pss_cons (ps_set (i := 4) nd rfl (.inl rfl) (Hs.pe_own O__law_led_block hr (by first | decide | omega) (by rfl) (pa_cons (pv 10) (pa_cons (pv 4) pa_nil))))
  (pss_cons (ps_set (i := 5) nd rfl (.inl rfl) (pe_tup (pa_cons (Hs.pe_own O__law_led hr (by first | decide | omega) (by rfl) (pa_cons (pv 10) (pa_cons (pe_ix (r := rIxT K) ix_tup (pv 5) pe_int (fun _ _ => rfl)) pa_nil))) (pa_cons (Hs.pe_own O__law_led hr (by first | decide | omega) (by rfl) (pa_cons (pv 10) (pa_cons (pe_ix (r := rIxT K) ix_tup (pv 5) pe_int (fun _ _ => rfl)) pa_nil))) pa_nil))))
  (pss_cons (ps_set (i := 6) nd rfl (.inl rfl) (pe_tup (pa_cons (Hs.pe_own O__law_led hr (by first | decide | omega) (by rfl) (pa_cons (pv 10) (pa_cons (pe_ix (r := rIxT K) ix_tup (pv 6) pe_int (fun _ _ => rfl)) pa_nil))) (pa_cons (Hs.pe_own O__law_led hr (by first | decide | omega) (by rfl) (pa_cons (pv 10) (pa_cons (pe_ix (r := rIxT K) ix_tup (pv 6) pe_int (fun _ _ => rfl)) pa_nil))) pa_nil))))
  (pss_cons (ps_set (i := 11) nd rfl (.inl rfl) (pe_lst (pa_cons (Hs.pe_own O_block_meets hr (by first | decide | omega) (by rfl) (pa_cons (pv 4) (pa_cons (pv 5) pa_nil))) (pa_cons (Hs.pe_own O_pieces_meet hr (by first | decide | omega) (by rfl) (pa_cons (pv 5) (pa_cons (pv 6) pa_nil))) (pa_cons (Hs.pe_own O_block_shares hr (by first | decide | omega) (by rfl) (pa_cons (pv 4) (pa_cons (pv 5) pa_nil))) (pa_cons (Hs.pe_own O_piece_shares hr (by first | decide | omega) (by rfl) (pa_cons (pv 6) (pa_cons (pv 5) pa_nil))) pa_nil))))))
  (pss_one (ps_if (pt_not (pt_val (Hs.pe_own O__law_same hr (by first | decide | omega) (by rfl) (pa_cons (pv 11) (pa_cons (pv 7) pa_nil))))) (pss_one (ps_ret pe_bl)) pss_nil))))))))))))))))
  (pss_one (ps_ret pe_bl)))), ?_⟩)
  · obtain ⟨a, ns, rfl, _⟩ := h
    rfl
  · obtain ⟨a, ns, rfl, hS0, hl, k⟩ := h
    refine ⟨_, rfl, a, ns, rfl, hS0, hl, fun b l H1 nb nl B1 e1 => ?_⟩
    show tSeq _ _ _ [some (.ref a), some (.ref b), none, none, none, none, none, none, none, none, none, none] H1
    refine q_forR1 (n := 3) (ea_cons ev_c ea_nil) (by decide) (fun i σ' H' => (∃ v2 v3 v4 v5 v6 v7 v8 v9 v10 v11 : Option V, σ' = [some (.ref a), some (.ref b), v2, v3, v4, v5, v6, v7, v8, v9, v10, v11]) ∧ BagAt H' b l ns (40 * i)) ?_ ?_ ?_
    · intro H4 e4
      exact ⟨⟨none, none, none, none, none, none, none, none, none, none, rfl⟩, B1.ext e4 (by omega)⟩
    · rintro t σ' H4 ht ⟨⟨v2, v3, v4, v5, v6, v7, v8, v9, v10, v11, rfl⟩, B4⟩
      refine ⟨_, rfl, b, l, ns, _, rfl, B4, by omega, fun g gw gx gy H5 G ng hg B5 b5 => ?_⟩
      refine ⟨_, rfl, _, rfl, b, l, g, ns, _, gw, gx, gy, rfl, B5, by omega, hg, G, fun tb B H6 hv hB htb B6 b6 => ?_⟩
      have hg6 := b6.tup B5 hg
      refine ⟨_, rfl, _, rfl, b, l, g, ns, _, gw, gx, gy, rfl, B6, by omega, hg6, G, fun pa za H7 ca npa hpa B7 b7 => ⟨_, rfl, _, rfl, b, l, g, ns, _, gw, gx, gy, rfl, B7, by omega, b7.tup B6 hg6, G, fun pb zb H8 cb npb hpb B8 b8 => ⟨sz_of (by simp), fun p1 hp1 => ?_⟩⟩⟩
      have hg8 := b8.tup B7 (b7.tup B6 hg6)
      have e9 := Ex.new (o := .tup [V.ref pa, .ref pb]) hp1
      have B9 := B8.ext e9 (Nat.le_refl _)
      have P1 : Pc K 20 _ p1 za zb := ⟨pa, pb, st_of upd_same, ⟨st_of (e9 _ _ (b8.tup B7 hpa)), ca.bd⟩, st_of (e9 _ _ hpb), cb.bd⟩
      have T1 : Bl K 20 _ tb B := ⟨st_of (e9 _ _ (b8.tup B7 (b7.tup B6 htb))), hB.bd⟩
      dsimp only [gName, List.set]
      generalize upd H8 p1 (.tup [V.ref pa, .ref pb]) = H9 at *
      have hg9 := e9 _ _ hg8
      refine ⟨_, rfl, _, rfl, b, l, g, ns, _, gw, gx, gy, rfl, B9, by omega, hg9, G, fun pc zc H10 cc npc hpc B10 b10 => ⟨_, rfl, _, rfl, b, l, g, ns, _, gw, gx, gy, rfl, B10, by omega, b10.tup B9 hg9, G, fun pd zd H11 cd npd hpd B11 b11 => ⟨sz_of (by simp), fun p2 hp2 => ?_⟩⟩⟩
      have e12 := Ex.new (o := .tup [V.ref pc, .ref pd]) hp2
      have B12 := B11.ext e12 (Nat.le_refl _)
      have P2 : Pc K 20 _ p2 zc zd := ⟨pc, pd, st_of upd_same, ⟨st_of (e12 _ _ (b11.tup B10 hpc)), cc.bd⟩, st_of (e12 _ _ hpd), cd.bd⟩
      replace P1 := (b11.pc B10 (b10.pc B9 P1)).ext e12
      replace T1 := (b11.bl B10 (b10.bl B9 T1)).ext e12
      dsimp only [gName, List.set]
      generalize upd H11 p2 (.tup [V.ref pc, .ref pd]) = H12 at *
      refine q_ev (four4 (tb := tb) (p1 := p1) (p2 := p2) rfl rfl rfl (T1.mono (by decide)) (P1.mono (by decide)) (P2.mono (by decide)) fun r w3 w4 H13 nr e13 hr13 o3 o4 => ?_)
      have X : Fig K H13 b l ns (40 * t + 19) 20 tb p1 p2 r B za zb zc zd w3 w4 := ⟨hv, T1.ext e13, P1.ext e13, P2.ext e13, bag_ne B12 nr, hr13, o3, o4, B12.ext e13 (by omega)⟩
      dsimp only [gName, List.set]
      clear T1 P1 P2 hr13 o3 o4 B12 e13
      refine s_forRD (fun n H' => (1 ≤ n ∧ n ≤ 3) ∧ Fig K H' b l ns (40 * t + 20) 20 tb p1 p2 r B za zb zc zd w3 w4) (fun kk hk => ?_) (fun n i σ' H' => n ≤ 3 ∧ ∃ (tb p1 p2 : Addr) (B : Blk) (x y c d : Pt) (v8 v9 v10 v11 : Option V), σ' = [some (.ref a), some (.ref b), some (.int (t : Int)), some (.ref g), some (.ref tb), some (.ref p1), some (.ref p2), some (.ref r), v8, v9, v10, v11] ∧ Fig K H' b l ns (40 * t + 20 + 5 * i) (20 + 20 * i) tb p1 p2 r B x y c d w3 w4) ?_ ?_ ?_
      · refine ⟨_, rfl, b, l, ns, _, 3, rfl, X.bag, by omega, by decide, by decide, fun u H14 u0 u1 B14 b14 => ⟨_, _, rfl, rfl, ?_⟩⟩
        exact hk _ _ ⟨by omega, X.draw b14 (B14.ext (Ex.refl _) (by omega))⟩
      · rintro n H14 ⟨⟨n1, n2⟩, X⟩
        exact ⟨by omega, n2, tb, p1, p2, B, za, zb, zc, zd, _, _, _, _, rfl, X⟩
      · clear X hp2 hp1 hg9 hg8 hg6 hg
        rintro n i σ' H14 hi ⟨n3, tb, p1, p2, B, x, y, c, d, v8, v9, v10, v11, rfl, X⟩
        have i3 : i < 3 := by omega
        -- the ways
        refine ⟨_, rfl, b, l, ns, _, 99, rfl, X.bag, by omega, by decide, by decide, fun dx H15 x0 x1 B15 b15 => ⟨_, _, rfl, rfl, _, rfl, _, _, rfl, rfl, ⟨by decide, by decide, by decide⟩, b, l, ns, _, _, rfl, B15, by omega, by decide, by decide, fun dy H16 y0 y1 B16 b16 => ⟨sz_of (by simp), fun wm hwm => ⟨sz_of (by simp), fun wt hwt => ⟨sz_of (by simp), fun wi hwi => ⟨sz_of (by simp), fun wl hwl => ?_⟩⟩⟩⟩⟩⟩
        have X1 := (X.draw b15 B15).draw b16 B16
        have y2 : (10 : Int) ^ Int.toNat 9 = 1000000000 := by decide
        rw [y2] at y1
        have f1 := Ex.new (o := .tup [V.str "move", .int (dx - 49), .int dy]) hwm
        have f2 := Ex.new (o := .tup [V.str "turn"]) hwt
        have f3 := Ex.new (o := .tup [V.str "mirror"]) hwi
        have f4 := Ex.new (o := .lst [V.ref wm, .ref wt, .ref wi]) hwl
        have f14 := ((f1.trans f2).trans f3).trans f4
        have X2 := X1.ex f14
        have nwl : wl ≠ b := bag_ne (X1.bag.ext ((f1.trans f2).trans f3) (Nat.le_refl _)) hwl
        have qm := ((f2.trans f3).trans f4) _ _ (upd_same (H := H16) (a := wm) (o := .tup [V.str "move", .int (dx - 49), .int dy]))
        have qt := (f3.trans f4) _ _ (upd_same (H := upd H16 wm (.tup [V.str "move", .int (dx - 49), .int dy])) (a := wt) (o := .tup [V.str "turn"]))
        have qi := f4 _ _ (upd_same (H := upd (upd H16 wm (.tup [V.str "move", .int (dx - 49), .int dy])) wt (.tup [V.str "turn"])) (a := wi) (o := .tup [V.str "mirror"]))
        have ql := upd_same (H := upd (upd (upd H16 wm (.tup [V.str "move", .int (dx - 49), .int dy])) wt (.tup [V.str "turn"])) wi (.tup [V.str "mirror"])) (a := wl) (o := .lst [V.ref wm, .ref wt, .ref wi])
        dsimp only [gName, List.set]
        generalize upd (upd (upd (upd H16 wm (.tup [V.str "move", .int (dx - 49), .int dy])) wt (.tup [V.str "turn"])) wi (.tup [V.str "mirror"])) wl (.lst [V.ref wm, .ref wt, .ref wi]) = H17 at *
        clear f14 f1 f2 f3 f4
        refine ⟨_, rfl, _, rfl, _, rfl, _, _, rfl, rfl, ⟨by decide, by decide, by decide⟩, sz_of (by simp), fun tl htl => ⟨_, rfl, b, l, ns, _, 2, rfl, X2.bag.ext (Ex.new htl) (Nat.le_refl _), by omega, by decide, by decide, fun u H18 u0 u1 B18 b18 => ?_⟩⟩
        have t6 : (10 : Int) ^ Int.toNat 6 = 1000000 := by decide
        have eT := Ex.new (o := .lst [V.int 3, .int ((10 : Int) ^ Int.toNat 6)]) htl
        obtain ⟨mny, hat, m0, m1⟩ : ∃ mny : Int, atI [V.int 3, .int ((10 : Int) ^ Int.toNat 6)] u = some (.int mny) ∧ 0 < mny ∧ mny ≤ 1000000 := by
          obtain rfl | rfl : u = 0 ∨ u = 1 := by omega
          · exact ⟨3, rfl, by decide, by decide⟩
          · exact ⟨_, rfl, by decide, by decide⟩
        have t5 := b18 _ _ (upd_same (H := H17) (a := tl) (o := .lst [V.int 3, .int ((10 : Int) ^ Int.toNat 6)])) (bag_ne X2.bag htl)
        have X3 := (X2.ex eT).draw b18 B18
        have k18 : But H17 H18 b := (But.of eT).trans b18
        refine ⟨tl, _, u, .int mny, rfl, rfl, sq_of t5, hat, b, l, ns, _, mny, rfl, B18, by omega, m0, Int.lt_of_le_of_lt m1 (by decide), fun kk H19 k0 k1 B19 b19 => ⟨_, _, rfl, rfl, sz_of (by simp), fun ws hws => ⟨sz_of (by simp), fun wz hwz => ?_⟩⟩⟩
        have X4 := X3.draw b19 B19
        have k19 : But H17 H19 b := k18.trans b19
        have f1 := Ex.new (o := .tup [V.str "stretch", .int (1 + kk)]) hws
        have f2 := Ex.new (o := .lst [V.ref ws]) hwz
        have f12 := f1.trans f2
        have k20 := k19.ex f12
        refine ⟨wl, wz, _, _, rfl, rfl, k20 _ _ ql nwl, upd_same, sz_of (by simp), fun wc hwc => ?_⟩
        have f3 := Ex.new (o := .lst ([V.ref wm, .ref wt, .ref wi] ++ [V.ref ws])) hwc
        have f13 := f12.trans f3
        have X5 := X4.ex f13
        have k21 := k20.ex f3
        have qs := (f2.trans f3) _ _ (upd_same (H := H19) (a := ws) (o := .tup [V.str "stretch", .int (1 + kk)]))
        refine ⟨b, l, wc, ns, _, _, rfl, X5.bag, by omega, upd_same, bag_ne (X4.bag.ext f12 (Nat.le_refl _)) hwc, by simp, by simp, fun v H22 hv22 B22 b22 => ?_⟩
        have X6 := X5.draw b22 B22
        obtain ⟨q, T, rfl, hq, hT⟩ : ∃ (q : Addr) (T : Way), v = .ref q ∧ H22 q = some (.tup (wayV T)) ∧ BdW T := by
          have k22 := k21.trans b22
          simp only [List.mem_append, List.mem_cons, List.not_mem_nil, or_false] at hv22
          rcases hv22 with (rfl | rfl | rfl) | rfl
          · exact ⟨wm, .move (dx - 49) dy, rfl, k22.tup X2.bag qm, Nat.lt_of_le_of_lt (show (dx - 49).natAbs ≤ 100 by omega) (by decide), Nat.lt_of_le_of_lt (show dy.natAbs ≤ 1000000000 by omega) (by decide)⟩
          · exact ⟨wt, .turn, rfl, k22.tup X2.bag qt, trivial⟩
          · exact ⟨wi, .mirror, rfl, k22.tup X2.bag qi, trivial⟩
          · exact ⟨ws, .stretch (1 + kk), rfl, b22.tup X5.bag qs, by omega, Nat.lt_of_le_of_lt (show (1 + kk).natAbs ≤ 1000000 by omega) (by decide)⟩
        clear X X1 X2 X3 X4 X5
        dsimp only [gName, List.set]
        have i80 : 20 + 20 * i ≤ 80 := by omega
        have i20 : 20 ≤ 20 + 20 * i := by omega
        refine q_asgU (xs := blV (T.ledB B)) (eu_call (ea_cons (ev_var rfl) (ea_cons (ev_var rfl) ea_nil)) fun H1 e1 Q' q' E' => ⟨q, tb, T, B, rfl, ex_t e1 (st_of hq), hT, (X6.hB.ext e1).mono i80, q'⟩) fun tb' H23 ntb e23 htb' => ?_
        replace hq := e23 _ _ hq
        have X7 := X6.ex e23
        have Tb : Bl K (20 + 20 * i + 20) H23 tb' (T.ledB B) := ⟨st_of htb', bd_ledB hT i20 X7.hB.2⟩
        dsimp only [List.set]
        refine q_ev (led2 (i := 5) rfl rfl (st_of hq) hT i20 i80 X7.h1 fun r1 H24 e24 R1 => ?_)
        replace hq := e24 _ _ hq
        have X8 := X7.ex e24
        replace Tb := Tb.ext e24
        dsimp only [gName, List.set]
        refine q_ev (led2 (i := 6) rfl rfl (st_of hq) hT i20 i80 X8.h2 fun r2 H25 e25 R2 => ?_)
        have X9 := X8.ex e25
        replace Tb := Tb.ext e25
        replace R1 := R1.ext e25
        dsimp only [gName, List.set]
        have j80 : 20 + 20 * i + 20 ≤ 80 := by omega
        refine q_ev (four4 (tb := tb') (p1 := r1) (p2 := r2) rfl rfl rfl (Tb.mono j80) (R1.mono j80) (R2.mono j80) fun fo u3 u4 H26 nfo e26 hfo q3 q4 => ?_)
        have XA := X9.ex e26
        have E1 : decide (SatB (T.ledB B) (T.led x) (T.led y)) = decide (SatB B x y) := decide_eq_decide.mpr (satB_led hT.ok XA.hv)
        have E2 : decide (Sat (T.led x) (T.led y) (T.led c) (T.led d)) = decide (Sat x y c d) := decide_eq_decide.mpr (sat_led hT.ok)
        have E3 : mB (T.ledB B) (T.led x) (T.led y) = mB B x y := metB_led hT.ok XA.hv
        have E4 : mP (T.led c) (T.led d) (T.led x) (T.led y) = mP c d x y := metP_led hT.ok
        rw [E1, E2] at hfo
        rw [E3] at q3
        rw [E4] at q4
        dsimp only [gName, List.set]
        refine s_when (b := false) (fun H27 e27 Q' q' => ⟨_, rfl, _, rfl, _, _, rfl, ?_, fun H28 e28 => ⟨true, rfl, q' H28 e28⟩⟩) (fun z => Bool.noConfusion z) (fun _ H27 e27 => ?_)
        · refine .inr ⟨fo, r, _, _, rfl, rfl, .inl ⟨sq_of (e27 _ _ hfo), sq_of (e27 _ _ XA.hr)⟩, rfl, by simp, fun i x y hx hy => ?_⟩
          match i, hx, hy with
          | 0, hx, hy => cases hx; cases hy; exact sm_flat rfl
          | 1, hx, hy => cases hx; cases hy; exact sm_flat rfl
          | 2, hx, hy => cases hx; cases hy; exact (q3.ext e27).sm (XA.o3.ext e27)
          | 3, hx, hy => cases hx; cases hy; exact (q4.ext e27).sm (XA.o4.ext e27)
          | i + 4, hx, hy => cases hx
        · have XB := XA.ex e27
          have e2627 := e26.trans e27
          have hrB := XB.hr
          have o3B := XB.o3
          have o4B := XB.o4
          rw [← E1, ← E2] at hrB
          rw [← E3] at o3B
          rw [← E4] at o4B
          exact ⟨n3, tb', r1, r2, T.ledB B, T.led x, T.led y, T.led c, T.led d, _, _, _, _, rfl, ⟨vb_led, (Tb.ext e2627).mono (by omega), (R1.ext e2627).mono (by omega), (R2.ext e2627).mono (by omega), XB.nr, hrB, o3B, o4B, XB.bag.ext (Ex.refl _) (by omega)⟩⟩
      · rintro n σ' H14 ⟨n3, tb, p1, p2, B, x, y, c, d, v8, v9, v10, v11, rfl, X⟩
        exact ⟨⟨_, _, _, _, _, _, _, _, _, _, rfl⟩, X.bag.ext (Ex.refl _) (by omega)⟩
    · rintro σ' H2 ⟨⟨v2, v3, v4, v5, v6, v7, v8, v9, v10, v11, rfl⟩, B2⟩
      exact s_ret ev_c fun H3 e3 => k H3
end
end Hs
namespace Hs
open PySem PySem.Spec PyProof.Rows L2 Evl
/-! ### the facts of the top -/
def dsCommon : He.DefD := ⟨("common_part", none), "common_part", "common_part", defArgs sCommon, defBody sCommon, defScope sCommon, [], []⟩
def dsFrac : He.DefD := ⟨("fraction", none), "fraction", "fraction", defArgs sFrac, defBody sFrac, defScope sFrac, [.int 1], []⟩
def dsOrder : He.DefD := ⟨("order", none), "order", "order", defArgs sOrder, defBody sOrder, defScope sOrder, [], []⟩
def dsHeight : He.DefD := ⟨("height", none), "height", "height", defArgs sHeight, defBody sHeight, defScope sHeight, [], []⟩
def dsBetw : He.DefD := ⟨("between", none), "between", "between", defArgs sBetw, defBody sBetw, defScope sBetw, [], []⟩
def dsCut : He.DefD := ⟨("cut", none), "cut", "cut", defArgs sCut, defBody sCut, defScope sCut, [], []⟩
def dsDown : He.DefD := ⟨("cut_down", none), "cut_down", "cut_down", defArgs sDown, defBody sDown, defScope sDown, [], []⟩
def dsEnds : He.DefD := ⟨("end_shares", none), "end_shares", "end_shares", defArgs sEnds, defBody sEnds, defScope sEnds, [], []⟩
def dsLean : He.DefD := ⟨("lean", none), "lean", "lean", defArgs sLean, defBody sLean, defScope sLean, [], []⟩
def dsSide : He.DefD := ⟨("side", none), "side", "side", defArgs sSide, defBody sSide, defScope sSide, [], []⟩
def dsBox : He.DefD := ⟨("box_around", none), "box_around", "box_around", defArgs sBox, defBody sBox, defScope sBox, [], []⟩
def dsHts : He.DefD := ⟨("block_heights", none), "block_heights", "block_heights", defArgs sHts, defBody sHts, defScope sHts, [], []⟩
def dsPhts : He.DefD := ⟨("piece_heights", none), "piece_heights", "piece_heights", defArgs sPhts, defBody sPhts, defScope sPhts, [], []⟩
def dsBlm : He.DefD := ⟨("blocks_meet", none), "blocks_meet", "blocks_meet", defArgs sBlm, defBody sBlm, defScope sBlm, [], []⟩
def dsBes : He.DefD := ⟨("beside", none), "beside", "beside", defArgs sBes, defBody sBes, defScope sBes, [], []⟩
def dsPm : He.DefD := ⟨("pieces_meet", none), "pieces_meet", "pieces_meet", defArgs sPm, defBody sPm, defScope sPm, [], []⟩
def dsBm : He.DefD := ⟨("block_meets", none), "block_meets", "block_meets", defArgs sBm, defBody sBm, defScope sBm, [], []⟩
def dsMet : He.DefD := ⟨("met_shares", none), "met_shares", "met_shares", defArgs sMet, defBody sMet, defScope sMet, [], []⟩
def dsBsh : He.DefD := ⟨("block_shares", none), "block_shares", "block_shares", defArgs sBsh, defBody sBsh, defScope sBsh, [], []⟩
def dsPsh : He.DefD := ⟨("piece_shares", none), "piece_shares", "piece_shares", defArgs sPsh, defBody sPsh, defScope sPsh, [], []⟩
def dsBag : He.DefD := ⟨("_law_bag", none), "_law_bag", "_law_bag", defArgs sBag, defBody sBag, defScope sBag, [], []⟩
def dsPull : He.DefD := ⟨("_law_pull", none), "_law_pull", "_law_pull", defArgs sPull, defBody sPull, defScope sPull, [], []⟩
def dsSame : He.DefD := ⟨("_law_same", none), "_law_same", "_law_same", defArgs sSame, defBody sSame, defScope sSame, [], []⟩
def dsGrid : He.DefD := ⟨("_law_grid", none), "_law_grid", "_law_grid", defArgs sGrid, defBody sGrid, defScope sGrid, [], []⟩
def dsSpot : He.DefD := ⟨("_law_spot", none), "_law_spot", "_law_spot", defArgs sSpot, defBody sSpot, defScope sSpot, [], []⟩
def dsOne : He.DefD := ⟨("_law_one", none), "_law_one", "_law_one", defArgs sOne, defBody sOne, defScope sOne, [], []⟩
def dsBlock : He.DefD := ⟨("_law_block", none), "_law_block", "_law_block", defArgs sBlock, defBody sBlock, defScope sBlock, [], []⟩
def dsLed : He.DefD := ⟨("_law_led", none), "_law_led", "_law_led", defArgs sLed, defBody sLed, defScope sLed, [], []⟩
def dsLedB : He.DefD := ⟨("_law_led_block", none), "_law_led_block", "_law_led_block", defArgs sLedB, defBody sLedB, defScope sLedB, [], []⟩
def dsLaw : He.DefD := ⟨("law", none), "law", "law", defArgs sLaw, defBody sLaw, defScope sLaw, [], []⟩
def fn : List He.DefD := [dsCommon, dsFrac, dsOrder, dsHeight, dsBetw, dsCut, dsDown, dsEnds, dsLean, dsSide, dsBox, dsHts, dsPhts, dsBlm, dsBes, dsPm, dsBm, dsMet, dsBsh, dsPsh, dsBag, dsPull, dsSame, dsGrid, dsSpot, dsOne, dsBlock, dsLed, dsLedB, dsLaw]
def fa : List He.Fa := [.glo "common_part", .glo "fraction", .glo "order", .glo "height", .glo "between", .glo "cut", .glo "cut_down", .glo "end_shares", .glo "lean", .glo "side", .glo "box_around", .glo "block_heights", .glo "piece_heights", .glo "blocks_meet", .glo "beside", .glo "pieces_meet", .glo "block_meets", .glo "met_shares", .glo "block_shares", .glo "piece_shares", .glo "_law_bag", .glo "_law_pull", .glo "_law_same", .glo "_law_grid", .glo "_law_spot", .glo "_law_one", .glo "_law_block", .glo "_law_led", .glo "_law_led_block", .glo "law", .free "len", .free "list", .free "int", .free "str", .free "bool", .free "tuple", .free "isinstance", .free "all", .free "range", .free "min", .free "max", .free "abs", .free "sum", .free "zip", .free "enumerate"]
abbrev R : PySem.W.OpenRow := PySem.W.OpenLaw.row PySem.Challenge.rw_hueshade_k04_whole_figures_moved_and_tur
abbrev hk : PySem.W.Hook := He.hookD 4 fa fn
def ob (s : PySem.W.SharedT) : He.AlD := He.obsDG 4 fa fn (HandSHeadRun.getT s)
theorem ob_eq (s : PySem.W.SharedT) : ob s = hk.obs s.abs := He.obsDG_eq (HandSHeadRun.getT_eq s)
abbrev others : List Str := [("__name__" : Str), ("ShadeError" : Str), ("Nought" : Str), ("common_part" : Str), ("fraction" : Str), ("order" : Str), ("height" : Str), ("between" : Str), ("cut" : Str), ("cut_down" : Str), ("end_shares" : Str), ("lean" : Str), ("side" : Str), ("box_around" : Str), ("block_heights" : Str), ("piece_heights" : Str), ("blocks_meet" : Str), ("beside" : Str), ("pieces_meet" : Str), ("block_meets" : Str), ("met_shares" : Str), ("block_shares" : Str), ("piece_shares" : Str), ("_law_bag" : Str), ("_law_pull" : Str), ("_law_same" : Str), ("_law_grid" : Str), ("_law_spot" : Str), ("_law_one" : Str), ("_law_block" : Str), ("_law_led" : Str), ("_law_led_block" : Str)]
theorem run (w : World) : HandSHeadRun.RunEq R (PySem.W.view R.prog [36]) hk ob 5000 others w := by
  intro os
  kernel_rfl
end Hs
namespace Hs
open PySem PySem.Spec PyProof.Rows L2 Evl
theorem facts {P : Program} {w : World} {K : PySem.W.Frag} {h : Heap} {mg : Str → Option Value} {f : Addr} (X : K.In h) (G : h.Ns mainGlobals mg) (hfa : mg ("law" : Str) = some (.ref f)) (cd : He.SaysD fa fn K) :
    ∃ fd : FuncData, (∀ (s : Shared) (v : Value), BindsTo s fd ⟨[v], []⟩ [("_law_script", v)]) ∧ ∀ base : Heap, FnOk P w K mg base CX0 7 f fd ["_law_script"] (spLaw K) := by
  obtain ⟨fd_common_part, F_common_part⟩ : ∃ fd, FnP K "common_part" sCommon (He.ga K "common_part") fd := cd.def_ 0 (d := dsCommon) rfl
  have m_common_part := He.glo_ok X G (cd.fact 0 (f := .glo "common_part") rfl)
  obtain ⟨fd_fraction, F_fraction⟩ : ∃ fd, FunD K "fraction" "fraction" (defArgs sFrac) (defBody sFrac) (defScope sFrac) [.int 1] [] (He.ga K "fraction") fd := cd.def_ 1 (d := dsFrac) rfl
  have m_fraction := He.glo_ok X G (cd.fact 1 (f := .glo "fraction") rfl)
  obtain ⟨fd_order, F_order⟩ : ∃ fd, FnP K "order" sOrder (He.ga K "order") fd := cd.def_ 2 (d := dsOrder) rfl
  have m_order := He.glo_ok X G (cd.fact 2 (f := .glo "order") rfl)
  obtain ⟨fd_height, F_height⟩ : ∃ fd, FnP K "height" sHeight (He.ga K "height") fd := cd.def_ 3 (d := dsHeight) rfl
  have m_height := He.glo_ok X G (cd.fact 3 (f := .glo "height") rfl)
  obtain ⟨fd_between, F_between⟩ : ∃ fd, FnP K "between" sBetw (He.ga K "between") fd := cd.def_ 4 (d := dsBetw) rfl
  have m_between := He.glo_ok X G (cd.fact 4 (f := .glo "between") rfl)
  obtain ⟨fd_cut, F_cut⟩ : ∃ fd, FnP K "cut" sCut (He.ga K "cut") fd := cd.def_ 5 (d := dsCut) rfl
  have m_cut := He.glo_ok X G (cd.fact 5 (f := .glo "cut") rfl)
  obtain ⟨fd_cut_down, F_cut_down⟩ : ∃ fd, FnP K "cut_down" sDown (He.ga K "cut_down") fd := cd.def_ 6 (d := dsDown) rfl
  have m_cut_down := He.glo_ok X G (cd.fact 6 (f := .glo "cut_down") rfl)
  obtain ⟨fd_end_shares, F_end_shares⟩ : ∃ fd, FnP K "end_shares" sEnds (He.ga K "end_shares") fd := cd.def_ 7 (d := dsEnds) rfl
  have m_end_shares := He.glo_ok X G (cd.fact 7 (f := .glo "end_shares") rfl)
  obtain ⟨fd_lean, F_lean⟩ : ∃ fd, FnP K "lean" sLean (He.ga K "lean") fd := cd.def_ 8 (d := dsLean) rfl
  have m_lean := He.glo_ok X G (cd.fact 8 (f := .glo "lean") rfl)
  obtain ⟨fd_side, F_side⟩ : ∃ fd, FnP K "side" sSide (He.ga K "side") fd := cd.def_ 9 (d := dsSide) rfl
  have m_side := He.glo_ok X G (cd.fact 9 (f := .glo "side") rfl)
  obtain ⟨fd_box_around, F_box_around⟩ : ∃ fd, FnP K "box_around" sBox (He.ga K "box_around") fd := cd.def_ 10 (d := dsBox) rfl
  have m_box_around := He.glo_ok X G (cd.fact 10 (f := .glo "box_around") rfl)
  obtain ⟨fd_block_heights, F_block_heights⟩ : ∃ fd, FnP K "block_heights" sHts (He.ga K "block_heights") fd := cd.def_ 11 (d := dsHts) rfl
  have m_block_heights := He.glo_ok X G (cd.fact 11 (f := .glo "block_heights") rfl)
  obtain ⟨fd_piece_heights, F_piece_heights⟩ : ∃ fd, FnP K "piece_heights" sPhts (He.ga K "piece_heights") fd := cd.def_ 12 (d := dsPhts) rfl
  have m_piece_heights := He.glo_ok X G (cd.fact 12 (f := .glo "piece_heights") rfl)
  obtain ⟨fd_blocks_meet, F_blocks_meet⟩ : ∃ fd, FnP K "blocks_meet" sBlm (He.ga K "blocks_meet") fd := cd.def_ 13 (d := dsBlm) rfl
  have m_blocks_meet := He.glo_ok X G (cd.fact 13 (f := .glo "blocks_meet") rfl)
  obtain ⟨fd_beside, F_beside⟩ : ∃ fd, FnP K "beside" sBes (He.ga K "beside") fd := cd.def_ 14 (d := dsBes) rfl
  have m_beside := He.glo_ok X G (cd.fact 14 (f := .glo "beside") rfl)
  obtain ⟨fd_pieces_meet, F_pieces_meet⟩ : ∃ fd, FnP K "pieces_meet" sPm (He.ga K "pieces_meet") fd := cd.def_ 15 (d := dsPm) rfl
  have m_pieces_meet := He.glo_ok X G (cd.fact 15 (f := .glo "pieces_meet") rfl)
  obtain ⟨fd_block_meets, F_block_meets⟩ : ∃ fd, FnP K "block_meets" sBm (He.ga K "block_meets") fd := cd.def_ 16 (d := dsBm) rfl
  have m_block_meets := He.glo_ok X G (cd.fact 16 (f := .glo "block_meets") rfl)
  obtain ⟨fd_met_shares, F_met_shares⟩ : ∃ fd, FnP K "met_shares" sMet (He.ga K "met_shares") fd := cd.def_ 17 (d := dsMet) rfl
  have m_met_shares := He.glo_ok X G (cd.fact 17 (f := .glo "met_shares") rfl)
  obtain ⟨fd_block_shares, F_block_shares⟩ : ∃ fd, FnP K "block_shares" sBsh (He.ga K "block_shares") fd := cd.def_ 18 (d := dsBsh) rfl
  have m_block_shares := He.glo_ok X G (cd.fact 18 (f := .glo "block_shares") rfl)
  obtain ⟨fd_piece_shares, F_piece_shares⟩ : ∃ fd, FnP K "piece_shares" sPsh (He.ga K "piece_shares") fd := cd.def_ 19 (d := dsPsh) rfl
  have m_piece_shares := He.glo_ok X G (cd.fact 19 (f := .glo "piece_shares") rfl)
  obtain ⟨fd__law_bag, F__law_bag⟩ : ∃ fd, FnP K "_law_bag" sBag (He.ga K "_law_bag") fd := cd.def_ 20 (d := dsBag) rfl
  have m__law_bag := He.glo_ok X G (cd.fact 20 (f := .glo "_law_bag") rfl)
  obtain ⟨fd__law_pull, F__law_pull⟩ : ∃ fd, FnP K "_law_pull" sPull (He.ga K "_law_pull") fd := cd.def_ 21 (d := dsPull) rfl
  have m__law_pull := He.glo_ok X G (cd.fact 21 (f := .glo "_law_pull") rfl)
  obtain ⟨fd__law_same, F__law_same⟩ : ∃ fd, FnP K "_law_same" sSame (He.ga K "_law_same") fd := cd.def_ 22 (d := dsSame) rfl
  have m__law_same := He.glo_ok X G (cd.fact 22 (f := .glo "_law_same") rfl)
  obtain ⟨fd__law_grid, F__law_grid⟩ : ∃ fd, FnP K "_law_grid" sGrid (He.ga K "_law_grid") fd := cd.def_ 23 (d := dsGrid) rfl
  have m__law_grid := He.glo_ok X G (cd.fact 23 (f := .glo "_law_grid") rfl)
  obtain ⟨fd__law_spot, F__law_spot⟩ : ∃ fd, FnP K "_law_spot" sSpot (He.ga K "_law_spot") fd := cd.def_ 24 (d := dsSpot) rfl
  have m__law_spot := He.glo_ok X G (cd.fact 24 (f := .glo "_law_spot") rfl)
  obtain ⟨fd__law_one, F__law_one⟩ : ∃ fd, FnP K "_law_one" sOne (He.ga K "_law_one") fd := cd.def_ 25 (d := dsOne) rfl
  have m__law_one := He.glo_ok X G (cd.fact 25 (f := .glo "_law_one") rfl)
  obtain ⟨fd__law_block, F__law_block⟩ : ∃ fd, FnP K "_law_block" sBlock (He.ga K "_law_block") fd := cd.def_ 26 (d := dsBlock) rfl
  have m__law_block := He.glo_ok X G (cd.fact 26 (f := .glo "_law_block") rfl)
  obtain ⟨fd__law_led, F__law_led⟩ : ∃ fd, FnP K "_law_led" sLed (He.ga K "_law_led") fd := cd.def_ 27 (d := dsLed) rfl
  have m__law_led := He.glo_ok X G (cd.fact 27 (f := .glo "_law_led") rfl)
  obtain ⟨fd__law_led_block, F__law_led_block⟩ : ∃ fd, FnP K "_law_led_block" sLedB (He.ga K "_law_led_block") fd := cd.def_ 28 (d := dsLedB) rfl
  have m__law_led_block := He.glo_ok X G (cd.fact 28 (f := .glo "_law_led_block") rfl)
  obtain ⟨fd_law, F_law⟩ : ∃ fd, FnP K "law" sLaw (He.ga K "law") fd := cd.def_ 29 (d := dsLaw) rfl
  have m_law := He.glo_ok X G (cd.fact 29 (f := .glo "law") rfl)
  have g_len := He.free_ok X G (cd.fact 30 (f := .free "len") rfl)
  have g_list := He.free_ok X G (cd.fact 31 (f := .free "list") rfl)
  have g_int := He.free_ok X G (cd.fact 32 (f := .free "int") rfl)
  have g_str := He.free_ok X G (cd.fact 33 (f := .free "str") rfl)
  have g_bool := He.free_ok X G (cd.fact 34 (f := .free "bool") rfl)
  have g_tuple := He.free_ok X G (cd.fact 35 (f := .free "tuple") rfl)
  have g_isinstance := He.free_ok X G (cd.fact 36 (f := .free "isinstance") rfl)
  have g_all := He.free_ok X G (cd.fact 37 (f := .free "all") rfl)
  have g_range := He.free_ok X G (cd.fact 38 (f := .free "range") rfl)
  have g_min := He.free_ok X G (cd.fact 39 (f := .free "min") rfl)
  have g_max := He.free_ok X G (cd.fact 40 (f := .free "max") rfl)
  have g_abs := He.free_ok X G (cd.fact 41 (f := .free "abs") rfl)
  have g_sum := He.free_ok X G (cd.fact 42 (f := .free "sum") rfl)
  have g_zip := He.free_ok X G (cd.fact 43 (f := .free "zip") rfl)
  have g_enumerate := He.free_ok X G (cd.fact 44 (f := .free "enumerate") rfl)
  have ef : f = He.ga K "law" := by
    have e := hfa.symm.trans m_law
    cases e
    rfl
  subst ef
  have hb := FunD.bindsA (ps := ["_law_script"]) F_law (fun _ _ _ _ _ _ us hl => match us, hl with | [_], _ => rfl)
  refine ⟨_, fun s v => hb s [v] rfl, fun base => ?_⟩
  have O_common_part := own_of F_common_part m_common_part (ok_common (P := P) (w := w) (mg := mg) (base := base) F_common_part g_abs) (fun _ _ _ _ _ _ us hl => match us, hl with | [_, _], _ => rfl)
  obtain ⟨ds1, v1, b1⟩ : ∃ ds, Vals ([V.int 1].drop 1) ds ∧ Binds K fd_fraction ["top", "bottom"] ds := F_fraction.binds1 2 1 (by simp) rfl fun T kV doc pm an cdv ct us its hl hi => match us, its, hl, hi with
    | [_, _], [_], _, _ => ⟨_, rfl, rfl⟩
  cases v1
  have O_fraction : Own P w K mg base 2 "fraction" ["top", "bottom"] spFracP := ⟨_, _, ok_fracP F_fraction O_common_part, m_fraction, F_fraction.kp, b1⟩
  have O_order := own_of F_order m_order (ok_order (n := bq 163 6 + 1) (P := P) (w := w) (mg := mg) (base := base) F_order (by decide)) (fun _ _ _ _ _ _ us hl => match us, hl with | [_, _], _ => rfl)
  have FC : FnOk P w K mg base CX0 3 (He.ga K "cut") fd_cut ["points", "heights"] (spCutX K 2 163 5178) := fnok_ex fun n hn => ok_cut (k := 2) F_cut (own_of F_height m_height (ok_height (n := n) (m := 163) F_height g_sum g_zip (by omega)) (fun _ _ _ _ _ _ us hl => match us, hl with | [_, _], _ => rfl)) (own_of F_between m_between (ok_betw (n := n) (m := n + 163 + 2) F_between O_common_part g_abs g_zip g_tuple (by omega)) (fun _ _ _ _ _ _ us hl => match us, hl with | [_, _, _, _], _ => rfl)) g_enumerate (by decide) (by omega)
  have O_cut := own_of F_cut m_cut FC (fun _ _ _ _ _ _ us hl => match us, hl with | [_, _], _ => rfl)
  have O_cut_down := own_of F_cut_down m_cut_down (ok_down F_cut_down O_cut g_zip (by decide)) (fun _ _ _ _ _ _ us hl => match us, hl with | [_, _], _ => rfl)
  have O_end_shares := own_of F_end_shares m_end_shares (ok_ends (n := bq 163 6) F_end_shares O_fraction O_order (by decide)) (fun _ _ _ _ _ _ us hl => match us, hl with | [_], _ => rfl)
  have O_lean := own_of F_lean m_lean (ok_lean (n := 80) (P := P) (w := w) (mg := mg) (base := base) F_lean (by decide)) (fun _ _ _ _ _ _ us hl => match us, hl with | [_, _, _], _ => rfl)
  have O_side := own_of F_side m_side (ok_side F_side O_lean) (fun _ _ _ _ _ _ us hl => match us, hl with | [_, _, _], _ => rfl)
  have O_box_around := own_of F_box_around m_box_around (ok_box (n := 80) (P := P) (w := w) (mg := mg) (base := base) F_box_around g_min g_max) (fun _ _ _ _ _ _ us hl => match us, hl with | [_], _ => rfl)
  have O_block_heights := own_of F_block_heights m_block_heights (ok_hts (n := 80) (P := P) (w := w) (mg := mg) (base := base) F_block_heights) (fun _ _ _ _ _ _ us hl => match us, hl with | [_, _], _ => rfl)
  have O_piece_heights := own_of F_piece_heights m_piece_heights (ok_phts F_piece_heights O_lean O_box_around O_block_heights) (fun _ _ _ _ _ _ us hl => match us, hl with | [_, _], _ => rfl)
  have O_blocks_meet := own_of F_blocks_meet m_blocks_meet (ok_blm (n := 80) (P := P) (w := w) (mg := mg) (base := base) F_blocks_meet) (fun _ _ _ _ _ _ us hl => match us, hl with | [_, _], _ => rfl)
  have O_beside := own_of F_beside m_beside (ok_bes F_beside O_side g_min g_max) (fun _ _ _ _ _ _ us hl => match us, hl with | [_, _], _ => rfl)
  have O_pieces_meet := own_of F_pieces_meet m_pieces_meet (ok_pm F_pieces_meet O_blocks_meet O_box_around O_beside) (fun _ _ _ _ _ _ us hl => match us, hl with | [_, _], _ => rfl)
  have O_block_meets := own_of F_block_meets m_block_meets (ok_bm F_block_meets O_blocks_meet O_box_around O_beside) (fun _ _ _ _ _ _ us hl => match us, hl with | [_, _], _ => rfl)
  have O_met_shares := own_of F_met_shares m_met_shares (ok_met F_met_shares O_cut_down O_end_shares) (fun _ _ _ _ _ _ us hl => match us, hl with | [_, _], _ => rfl)
  have O_block_shares := own_of F_block_shares m_block_shares (ok_bsh F_block_shares O_met_shares O_block_heights (by decide)) (fun _ _ _ _ _ _ us hl => match us, hl with | [_, _], _ => rfl)
  have O_piece_shares := own_of F_piece_shares m_piece_shares (ok_psh F_piece_shares O_met_shares O_piece_heights (by decide)) (fun _ _ _ _ _ _ us hl => match us, hl with | [_, _], _ => rfl)
  have O__law_pull := own_of F__law_pull m__law_pull (ok_pull (P := P) (w := w) (mg := mg) (base := base) F__law_pull g_len) (fun _ _ _ _ _ _ us hl => match us, hl with | [_, _], _ => rfl)
  have O__law_bag := own_of F__law_bag m__law_bag (ok_bag (P := P) (w := w) (mg := mg) (base := base) F__law_bag g_len g_list) (fun _ _ _ _ _ _ us hl => match us, hl with | [_], _ => rfl)
  have O__law_same := own_of F__law_same m__law_same (ok_same (P := P) (w := w) (mg := mg) (base := base) F__law_same m__law_same g_len g_isinstance g_bool g_int g_str g_list g_tuple g_all g_range 4) (fun _ _ _ _ _ _ us hl => match us, hl with | [_, _], _ => rfl)
  have O__law_grid := own_of F__law_grid m__law_grid (ok_grid F__law_grid O__law_pull) (fun _ _ _ _ _ _ us hl => match us, hl with | [_], _ => rfl)
  have O__law_spot := own_of F__law_spot m__law_spot (ok_spot F__law_spot O__law_pull) (fun _ _ _ _ _ _ us hl => match us, hl with | [_, _], _ => rfl)
  have O__law_one := own_of F__law_one m__law_one (ok_one F__law_one O__law_pull g_len) (fun _ _ _ _ _ _ us hl => match us, hl with | [_, _], _ => rfl)
  have O__law_block := own_of F__law_block m__law_block (ok_block F__law_block O__law_pull O__law_spot g_min) (fun _ _ _ _ _ _ us hl => match us, hl with | [_, _], _ => rfl)
  have O__law_led := own_of F__law_led m__law_led (ok_led (P := P) (w := w) (mg := mg) (base := base) F__law_led) (fun _ _ _ _ _ _ us hl => match us, hl with | [_, _], _ => rfl)
  have O__law_led_block := own_of F__law_led_block m__law_led_block (ok_ledB F__law_led_block O__law_led g_min g_max) (fun _ _ _ _ _ _ us hl => match us, hl with | [_, _], _ => rfl)
  exact ok_law F_law O__law_bag O__law_pull O__law_grid O__law_spot O__law_block O__law_one O__law_led O__law_led_block O__law_same O_block_meets O_pieces_meet O_block_shares O_piece_shares g_range
end Hs
open PySem PySem.W PySem.Calls PyProof.Rows
theorem PySem.Challenge.cw_hueshade_k04_whole_figures_moved_and_tur_holds : PySem.Challenge.rw_hueshade_k04_whole_figures_moved_and_tur.Holds := by
  w_on; o_law
  refine HandSHeadRun.head_any (r := OpenLaw.row PySem.Challenge.rw_hueshade_k04_whole_figures_moved_and_tur) (q := view (OpenLaw.row PySem.Challenge.rw_hueshade_k04_whole_figures_moved_and_tur).prog [36]) (H := Hs.hk) (ob := Hs.ob) (M := 5000) (loose := Hs.others) (d := HandSHeadRun.topDef (OpenLaw.row PySem.Challenge.rw_hueshade_k04_whole_figures_moved_and_tur).prog 36) (kwd := []) Hs.ob_eq
    (by kernel_rfl) (fun s => by kernel_rfl) Hs.run (by kernel_rfl) (by kernel_rfl) (by kernel_rfl) (by rfl) (by first | assumption | decide +kernel) (by decide +kernel) ⟨rfl, rfl, rfl, rfl, rfl, by decide +kernel⟩ ?hw ?hc
  case hw => w_witness2
  case hc =>
    refine L2.walk_ofE (l := PySem.Challenge.rw_hueshade_k04_whole_figures_moved_and_tur) (n := 63) (k := 7) (x := "_law_script") (CX := L2.CX0) rfl (by decide) (by kernel_rfl) ⟨rfl, by decide, by decide⟩ ?F (fun _ _ _ _ z => z)
    intro w mg fa h Y G hmg0
    obtain ⟨K, KX, c⟩ := Y
    have hmg : mg ("law" : PySem.Str) = some (.ref fa) := by
      have e : (HandSHeadRun.topDef (OpenLaw.row PySem.Challenge.rw_hueshade_k04_whole_figures_moved_and_tur).prog 36).name = ("law" : PySem.Str) := by kernel_rfl
      rw [← e]
      exact hmg0
    obtain ⟨fd, hb, hF⟩ := Hs.facts (P := (PySem.Challenge.rw_hueshade_k04_whole_figures_moved_and_tur).prog) (w := w) KX G hmg c
    exact ⟨K, fd, Hs.spLaw K, KX, hb, fun H a ns hl _ hS => ⟨a, ns, rfl, hS, hl, fun _ => rfl⟩, fun base _ _ => hF base⟩
