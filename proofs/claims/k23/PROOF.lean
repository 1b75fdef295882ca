import PyProof.Rows.All
import Wide.All
import OpenK.AllK
import Wide.FinOn
import HandS.ForMost
import HandS.ForExc
import HandS.Wide
import HandS.IsInst
import HandS.Lambda
import HandS.Defaults
import HandS.Evl
import HandS.Codes
import HandS.Style
import HandS.More
import HandS.FStr
import HandS.TryMany
import HandS.ExcField
import HandS.NoneIn
import HandS.ExcInit
import HandS.ExcSuper
import KE.KExcSuper
import KE.KExcInit
import KE.DatumOrd
import HandS.Zip
import HandS.Walk
import HandS.Rev
import HandS.TupAny
import HandS.Star
import HandS.Flow
import HandS.Nested
import HandS.Head0
import HandS.Head1
import HandS.Head2
import HandS.HeadEnd
import HandS.HeadHook1
import HandS.HeadHook2
import HandS.HeadHook3
import HandS.HeadHook4
import HandS.HeadWalk
import PySem.Challenge.RW_hueshade_k23_rows_of_choices
set_option Elab.async false
set_option linter.all false
set_option maxRecDepth 100000
set_option maxHeartbeats 0
namespace Hs
/-! ### fractions in lowest terms -/
/-- the common part, with the sign of the bottom -/
def sg (a b : Int) : Int := if b < 0 then -(Int.gcd a b : Int) else (Int.gcd a b : Int)
def low (a b : Int) : Int × Int := (a.fdiv (sg a b), b.fdiv (sg a b))
theorem gcd_pos {a b : Int} (h : b ≠ 0) : 0 < Int.gcd a b := Int.gcd_pos_of_ne_zero_right a h
theorem sg_ne {a b : Int} (h : b ≠ 0) : sg a b ≠ 0 := by
  have := gcd_pos (a := a) h
  unfold sg
  split <;> omega
theorem sg_abs {a b : Int} : (sg a b).natAbs = Int.gcd a b := by
  unfold sg
  split <;> omega
theorem sg_dvd_left (a b : Int) : sg a b ∣ a := by
  unfold sg
  split
  · exact Int.neg_dvd.mpr (Int.gcd_dvd_left ..)
  · exact Int.gcd_dvd_left ..
theorem sg_dvd_right (a b : Int) : sg a b ∣ b := by
  unfold sg
  split
  · exact Int.neg_dvd.mpr (Int.gcd_dvd_right ..)
  · exact Int.gcd_dvd_right ..
theorem low_1 (a b : Int) : a = sg a b * (low a b).1 := by
  have h := sg_dvd_left a b
  show a = sg a b * a.fdiv (sg a b)
  rw [Int.fdiv_eq_ediv_of_dvd h, Int.mul_ediv_cancel' h]
theorem low_2 (a b : Int) : b = sg a b * (low a b).2 := by
  have h := sg_dvd_right a b
  show b = sg a b * b.fdiv (sg a b)
  rw [Int.fdiv_eq_ediv_of_dvd h, Int.mul_ediv_cancel' h]
theorem low_of {a b g x y : Int} (h : b ≠ 0) (hg : sg a b = g) (ha : a = g * x) (hb : b = g * y) : low a b = (x, y) := by
  have h1 := low_1 a b
  have h2 := low_2 a b
  have hn : g ≠ 0 := by
    rw [← hg]
    exact sg_ne h
  rw [hg] at h1 h2
  have e1 : (low a b).1 = x := Int.eq_of_mul_eq_mul_left hn (h1.symm.trans ha)
  have e2 : (low a b).2 = y := Int.eq_of_mul_eq_mul_left hn (h2.symm.trans hb)
  rw [← e1, ← e2]
theorem low_pos {a b : Int} (h : b ≠ 0) : 0 < (low a b).2 := by
  have h2 := low_2 a b
  have hp := gcd_pos (a := a) h
  by_cases hb : b < 0
  · have e : sg a b = -(Int.gcd a b : Int) := if_pos hb
    rw [e] at h2
    apply Decidable.byContradiction
    intro hn
    have : 0 ≤ -(Int.gcd a b : Int) * (low a b).2 := by
      have := Int.mul_nonneg_of_nonpos_of_nonpos (a := -(Int.gcd a b : Int)) (b := (low a b).2) (by omega) (by omega)
      exact this
    omega
  · have e : sg a b = (Int.gcd a b : Int) := if_neg hb
    rw [e] at h2
    apply Decidable.byContradiction
    intro hn
    have : (Int.gcd a b : Int) * (low a b).2 ≤ 0 := Int.mul_nonpos_of_nonneg_of_nonpos (by omega) (by omega)
    omega
theorem low_b1 {a b : Int} (h : b ≠ 0) : (low a b).1.natAbs ≤ a.natAbs := by
  have h1 := congrArg Int.natAbs (low_1 a b)
  rw [Int.natAbs_mul, sg_abs] at h1
  rw [h1]
  exact Nat.le_mul_of_pos_left _ (gcd_pos h)
theorem low_b2 {a b : Int} (h : b ≠ 0) : (low a b).2.natAbs ≤ b.natAbs := by
  have h1 := congrArg Int.natAbs (low_2 a b)
  rw [Int.natAbs_mul, sg_abs] at h1
  have h2 := Nat.le_mul_of_pos_left (low a b).2.natAbs (gcd_pos (a := a) h)
  omega
theorem sg_mul {k a b : Int} (hk : k ≠ 0) (h : b ≠ 0) : sg (k * a) (k * b) = k * sg a b := by
  unfold sg
  rw [Int.gcd_mul_left, Int.natCast_mul]
  by_cases h1 : 0 < k
  · have e : (k.natAbs : Int) = k := by omega
    rw [e]
    by_cases h2 : b < 0
    · have : k * b < 0 := Int.mul_neg_of_pos_of_neg h1 h2
      rw [if_pos this, if_pos h2, Int.mul_neg]
    · have : 0 ≤ k * b := Int.mul_nonneg (by omega) (by omega)
      rw [if_neg (by omega), if_neg h2]
  · have e : (k.natAbs : Int) = -k := by omega
    rw [e]
    by_cases h2 : b < 0
    · have : 0 ≤ k * b := Int.mul_nonneg_of_nonpos_of_nonpos (by omega) (by omega)
      rw [if_neg (by omega), if_pos h2, Int.mul_neg, Int.neg_mul]
    · have : k * b < 0 := Int.mul_neg_of_neg_of_pos (by omega) (by omega)
      rw [if_pos this, if_neg h2, Int.neg_mul, Int.neg_neg]
theorem low_scale {k a b : Int} (hk : k ≠ 0) (h : b ≠ 0) : low (k * a) (k * b) = low a b := by
  have hkb : k * b ≠ 0 := Int.mul_ne_zero hk h
  refine low_of hkb (sg_mul hk h) ?_ ?_
  · rw [Int.mul_assoc]
    exact congrArg (k * ·) (low_1 a b)
  · rw [Int.mul_assoc]
    exact congrArg (k * ·) (low_2 a b)
theorem low_one (a : Int) : low a 1 = (a, 1) := by
  have e : sg a 1 = 1 := by
    unfold sg
    rw [if_neg (by decide), Int.gcd_one_right] <;> rfl
  exact low_of (by decide) e (by omega) (by omega)
/-- the middle: the half of a sum in lowest terms -/
theorem low_half {x y : Int} (h : y ≠ 0) : low ((low x y).1 * 1) ((low x y).2 * 2) = low x (2 * y) := by
  have h1 := low_1 x y
  have h2 := low_2 x y
  have hp := low_pos (a := x) h
  have e : low x (2 * y) = low (sg x y * ((low x y).1 * 1)) (sg x y * ((low x y).2 * 2)) := by
    congr 1
    · rw [Int.mul_one]
      exact h1
    · rw [← Int.mul_assoc, ← h2, Int.mul_comm]
  rw [e]
  exact (low_scale (sg_ne h) (by omega)).symm
end Hs
namespace Hs
open PySem PySem.Spec PyProof.Rows L2 Evl
/-! ### own words -/
/-- // by any divisor but nought, below 2 ^ 9000 -/
def CDivG (i j : Int) : Prop := j ≠ 0 ∧ (j.natAbs.log2 < 9000 ∨ i.natAbs.log2 < 13400)
theorem noPylong_x {x y : Int} (h : x.natAbs.log2 < 13400) : Builtin.divisionGoesByPylong x y = false := by
  have key : (if x == 0 then 0 else x.natAbs.log2 / 30 + 1) ≤ 450 := by
    by_cases hx : (x == 0) = true
    · rw [if_pos hx]
      exact Nat.zero_le _
    · rw [if_neg hx]
      omega
  show (decide ((if y == 0 then 0 else y.natAbs.log2 / 30 + 1) > 300) && decide ((if x == 0 then 0 else x.natAbs.log2 / 30 + 1) > (if y == 0 then 0 else y.natAbs.log2 / 30 + 1) + 150)) = false
  generalize (if y == 0 then 0 else y.natAbs.log2 / 30 + 1) = b
  generalize (if x == 0 then 0 else x.natAbs.log2 / 30 + 1) = a at key
  by_cases hb : b > 300
  · rw [decide_eq_false (show ¬ a > b + 150 by omega), Bool.and_false]
  · rw [decide_eq_false hb, Bool.false_and]
theorem op_fdivG {X : Cx} : OpR X (binaryOp .FloorDiv) (rI CDivG fun i j => .int (i.fdiv j)) := opI fun i j _ _ _ _ _ hc q => floordiv_int hc.1 q (.inl (hc.2.elim PyProof.noPylong_of_log2 noPylong_x))
theorem divG {i j : Int} {b : Nat} (h : j ≠ 0) (hb : j.natAbs < 2 ^ b) (h0 : 0 < b) (h9 : b ≤ 9000) : CDivG i j := ⟨h, .inl (Nat.lt_of_lt_of_le (PySem.Flt.log2_lt_of h0 hb) h9)⟩
theorem divX {i j : Int} {b : Nat} (h : j ≠ 0) (hb : i.natAbs < 2 ^ b) (h0 : 0 < b) (h9 : b ≤ 13400) : CDivG i j := ⟨h, .inr (Nat.lt_of_lt_of_le (PySem.Flt.log2_lt_of h0 hb) h9)⟩
theorem mul64 {i j : Int} (ha : i.natAbs < 2 ^ 64) (hb : j.natAbs < 2 ^ 64) : CMulW i j := wide_mul ha hb (by decide) (by decide) (by decide)
theorem modP {i j : Int} (h : 0 < j) : 0 ≤ i.fmod j ∧ i.fmod j < j := by
  rw [Int.fmod_eq_emod_of_nonneg i (Int.le_of_lt h)]
  exact ⟨Int.emod_nonneg i (by omega), Int.emod_lt_of_pos i h⟩
/-- an own def by its promise -/
structure Own (P : Program) (w : World) (K : PySem.W.Frag) (mg : Str → Option Value) (base : Heap) (k : Nat) (x : Str) (ps : List Str) (sp : Sp) : Prop where
  ex : ∃ (f : Addr) (fd : FuncData), FnOk P w K mg base CX0 k f fd ps sp ∧ mg x = some (.ref f) ∧ PySem.W.keepIn K (.ref f) = true ∧ Binds K fd ps []
theorem pe_own {X : Cx} {k j : Nat} {x : Str} {ps : List Str} {sp : Sp} {e : Expr} {es : List Expr} {t : TA} {p pos : Pos} (O : Own X.prog X.w X.K X.mg X.base k x ps sp) (hr : Room j X.A) (hk : k ≤ j) (hg : Gl X x) (ha : PA X (e :: es) t)
    (hdb : (x == ("__debug__" : Str)) = false := by decide) (he : starEach (e :: es) X.env = (false, eval e X.env) :: starEach es X.env := by rfl) (hpl : (backTo pos (starEach es X.env)).any (·.1) = false := by rfl) :
    PE X (.Call (.Name x p) (e :: es) [] pos) (tCall sp [] E0 t) := by
  obtain ⟨f, fd, F, m, kp, b⟩ := O.ex
  exact pe_call F (hr.mono hk) hg m kp b .nil pass0 ha hdb he hpl
abbrev FnP (K : PySem.W.Frag) (x : Str) (st : Stmt) (f : Addr) (fd : FuncData) : Prop := FunD K x x (defArgs st) (defBody st) (defScope st) [] [] f fd
theorem own_of {P : Program} {w : World} {K : PySem.W.Frag} {mg : Str → Option Value} {base : Heap} {k : Nat} {x : Str} {ps : List Str} {sp : Sp} {st : Stmt} {f : Addr} {fd : FuncData} (F : FnP K x st f fd) (m : mg x = some (.ref f)) (G : FnOk P w K mg base CX0 k f fd ps sp)
    (h : ∀ (kV doc pm : Value) (an : Option Addr) (cdv ct : Value) (us : List Value), us.length = ps.length → bindArgs (PySem.W.fnOf x x (defArgs st) (defBody st) (defScope st) .none kV doc pm an cdv ct) ⟨us, []⟩ = pure (ps.zip us)) : Own P w K mg base k x ps sp :=
  ⟨f, fd, G, m, F.kp, F.bindsN h⟩
theorem ev_ix {K : PySem.W.Frag} {σ : L2.St} {H : Hp} {b : Addr} {xs : List V} {i : Int} {v : V} {j : Nat} (hs : σ[j]? = some (some (.ref b))) (hb : H b = some (.lst xs)) (ha : atI xs i = some v) : Ev (tOp (rIxL K) (tVar j) (tC (.int i))) σ H v :=
  ev_op (ev_var hs) ev_c (rv_ixL (sq_of hb) ha)
theorem ev_ixt {K : PySem.W.Frag} {σ : L2.St} {H : Hp} {b : Addr} {xs : List V} {i : Int} {v : V} {j : Nat} (hs : σ[j]? = some (some (.ref b))) (hb : SqT K H b xs) (ha : atI xs i = some v) : Ev (tOp (rIxT K) (tVar j) (tC (.int i))) σ H v :=
  ev_op (ev_var hs) ev_c (rv_ixT hb ha)
theorem ite_T {c : Bool} {A B : Prop} (hc : c = true) (h : A) : if c = true then A else B := by
  rw [if_pos hc]
  exact h
theorem ite_F {c : Bool} {A B : Prop} (hc : c = false) (h : B) : if c = true then A else B := by
  rw [hc, if_neg Bool.false_ne_true]
  exact h
/-! ### the bag that draws -/
structure BagAt (H : Hp) (b l : Addr) (ns : List Int) (n : Nat) : Prop where
  ex : ∃ (i : Nat) (z s : Int) (c : Nat), H b = some (.lst [.ref l, .int i, .int z, .int s, .int c]) ∧ i ≤ ns.length ∧ 0 ≤ s ∧ s < 2147483647 ∧ c ≤ n
  ls : H l = some (.lst (ns.map V.int))
  ne : b ≠ l
/-- all but the object at b stays -/
def But (H H' : Hp) (b : Addr) : Prop := ∀ a o, H a = some o → a ≠ b → H' a = some o
theorem But.refl {H : Hp} {b : Addr} : But H H b := fun _ _ e _ => e
theorem But.trans {H H1 H2 : Hp} {b : Addr} (x : But H H1 b) (y : But H1 H2 b) : But H H2 b := fun a o e n => y a o (x a o e n) n
theorem But.ex {H H1 H2 : Hp} {b : Addr} (x : But H H1 b) (y : Ex H1 H2) : But H H2 b := fun a o e n => y a o (x a o e n)
theorem But.of {H H1 : Hp} {b : Addr} (y : Ex H H1) : But H H1 b := fun a o e _ => y a o e
theorem But.upd {H H1 : Hp} {b : Addr} {u : HO} (x : But H H1 b) : But H (upd H1 b u) b := fun a o e n => by
  rw [upd_ne n]
  exact x a o e n
theorem BagAt.ext {H H1 : Hp} {b l : Addr} {ns : List Int} {n m : Nat} (B : BagAt H b l ns n) (e : Ex H H1) (h : n ≤ m) : BagAt H1 b l ns m := by
  obtain ⟨⟨i, z, s, c, h1, h2, h3, h4, h5⟩, h6, h7⟩ := B
  exact ⟨⟨i, z, s, c, e _ _ h1, h2, h3, h4, Nat.le_trans h5 h⟩, e _ _ h6, h7⟩
def spPull : Sp := fun vs H Q _ => ∃ (b l : Addr) (ns : List Int) (n : Nat) (many : Int), vs = [.ref b, .int many] ∧ BagAt H b l ns n ∧ n < 1000000 ∧ 0 < many ∧ many < 2 ^ 200 ∧
  ∀ (v : Int) (H' : Hp), 0 ≤ v → v < many → BagAt H' b l ns (n + 1) → But H H' b → Q (.int v) H'
def spBag (K : PySem.W.Frag) : Sp := fun vs H Q _ => ∃ (a : Addr) (ns : List Int), vs = [.ref a] ∧ SqL K H a (ns.map V.int) ∧ ns.length ≤ 63 ∧
  ∀ (b l : Addr) (H' : Hp), H b = none → H l = none → BagAt H' b l ns 0 → Ex H H' → Q (.ref b) H'
end Hs
namespace Hs
open PySem
def top (i : Nat) : Stmt := PySem.Challenge.pw_hueshade_k23_rows_of_choices.main.body.getD i (.Pass ⟨0, 0, 0, 0⟩)
end Hs
namespace Hs
open PySem PySem.Spec PyProof.Rows L2 Evl
section
variable {P : Program} {w : World} {K : PySem.W.Frag} {mg : Str → Option Value} {base : Heap} {f : Addr} {fd : FuncData}
abbrev sPull : Stmt := top 18
theorem scPull : FnScope ["_law_bag_here", "_law_many", "_law_cell", "_law_got", "_law_wider"] ["_law_bag_here", "_law_many"] (defScope sPull) := ⟨rfl, rfl, rfl, by decide +kernel, rfl, by decide +kernel, by decide +kernel⟩
theorem ok_pull (F : FnP K "_law_pull" sPull f fd) (g_len : mg "len" = none) : FnOk P w K mg base CX0 1 f fd ["_law_bag_here", "_law_many"] spPull := by
  have nd := scPull.nd
  refine F.ok scPull (fun vs H Q E h => ?_) (fun cdv A outer s H vs Q E hr h => ⟨_, PSs.nox (Evl.pss_cut (ps_if (PW.pt (pw_and (pt_cmpR op_eq (pe_ix (r := rIxL K) ix_list (pv 0) pe_int (fun _ _ => rfl)) pe_int (nomark _)) (pw_and1 (pt_cmpR op_lt (pe_ix (r := rIxL K) ix_list (pv 0) pe_int (fun _ _ => rfl)) (pe_callB (r := Evl.rLenS K) call_len_seq (by rfl) g_len PySem.boot_len (pa_cons (pe_ix (r := rIxL K) ix_list (pv 0) pe_int (fun _ _ => rfl)) pa_nil)) (nomark _))))) (pss_cons (ps_set (i := 2) nd rfl (.inl rfl) (pe_ix (r := rIxL K) ix_list (pe_ix (r := rIxL K) ix_list (pv 0) pe_int (fun _ _ => rfl)) (pe_ix (r := rIxL K) ix_list (pv 0) pe_int (fun _ _ => rfl)) (fun _ _ => rfl)))
  (pss_cons (ps_asg (pe_op op_add (pe_ix (r := rIxL K) ix_list (pv 0) pe_int (fun _ _ => rfl)) pe_int) (pg_sub (pv 0) pe_int set_list))
  (pss_one (ps_if (pt_cmpR op_ge (pv 2) (pe_op op_pow pe_int pe_int) (nomark _)) (pss_one (ps_asg (pv 2) (pg_sub (pv 0) pe_int set_list))) (pss_one (ps_asg (pe_op op_modN (pe_op op_add (pe_op op_add (pe_op op_mulW (pe_ix (r := rIxL K) ix_list (pv 0) pe_int (fun _ _ => rfl)) pe_int) (pe_op op_modN (pv 2) pe_int)) pe_int) pe_int) (pg_sub (pv 0) pe_int set_list))))))) pss_nil)
  (pss_cons (ps_if (pt_cmpR op_gt (pe_ix (r := rIxL K) ix_list (pv 0) pe_int (fun _ _ => rfl)) pe_int (nomark _)) (pss_cons (ps_set (i := 3) nd rfl (.inl rfl) (pe_op op_modN (pe_ix (r := rIxL K) ix_list (pv 0) pe_int (fun _ _ => rfl)) (pv 1)))
  (pss_cons (ps_asg (pe_op Hs.op_fdivG (pe_ix (r := rIxL K) ix_list (pv 0) pe_int (fun _ _ => rfl)) (pv 1)) (pg_sub (pv 0) pe_int set_list))
  (pss_one (ps_ret (pv 3))))) pss_nil)
  (pss_cons (ps_asg (pe_op op_add (pe_ix (r := rIxL K) ix_list (pv 0) pe_int (fun _ _ => rfl)) pe_int) (pg_sub (pv 0) pe_int set_list))
  (pss_cons (ps_set (i := 4) nd rfl (.inl rfl) (pe_op op_add (pe_op op_mulW (pe_ix (r := rIxL K) ix_list (pv 0) pe_int (fun _ _ => rfl)) (pe_ix (r := rIxL K) ix_list (pv 0) pe_int (fun _ _ => rfl))) (pe_op op_mulW (pe_op op_mulW pe_int (pe_ix (r := rIxL K) ix_list (pv 0) pe_int (fun _ _ => rfl))) (pe_op op_add (pe_op op_modN (pe_ix (r := rIxL K) ix_list (pv 0) pe_int (fun _ _ => rfl)) pe_int) pe_int))))
  (pss_cons (ps_asg (pe_op op_modN (pe_op op_add (pe_op op_add (pv 4) (pe_op op_mulW (pe_op op_mulW (pe_ix (r := rIxL K) ix_list (pv 0) pe_int (fun _ _ => rfl)) (pe_ix (r := rIxL K) ix_list (pv 0) pe_int (fun _ _ => rfl))) (pe_ix (r := rIxL K) ix_list (pv 0) pe_int (fun _ _ => rfl)))) pe_int) pe_int) (pg_sub (pv 0) pe_int set_list))
  (pss_one (ps_ret (pe_op op_modN (pe_op op_add (pe_op Hs.op_fdivG (pe_ix (r := rIxL K) ix_list (pv 0) pe_int (fun _ _ => rfl)) pe_int) (pe_op op_mulW (pe_op op_modN (pe_ix (r := rIxL K) ix_list (pv 0) pe_int (fun _ _ => rfl)) pe_int) pe_int)) (pv 1))))))))), ?_⟩)
  · obtain ⟨b, l, ns, n, many, rfl, _⟩ := h
    rfl
  · obtain ⟨b, l, ns, n, many, rfl, B, hn, hm, hm2, k⟩ := h
    obtain ⟨⟨i, z, s0, c, hb, hi, h0, h1, hc⟩, hl, ne⟩ := B
    refine q_cut (M := fun σ' H' => ∃ v2, σ' = [some (.ref b), some (.int many), v2, none, none] ∧ H' l = some (.lst (ns.map V.int)) ∧ But H H' b ∧ ∃ (i : Nat) (z s : Int), H' b = some (.lst [.ref l, .int i, .int z, .int s, .int c]) ∧ i ≤ ns.length ∧ 0 ≤ s ∧ s < 2147483647) ?_ ?_
    · refine s_when (et_and (et_test (ev_op (ev_ix rfl hb rfl) ev_c (rv_eq rfl))) fun _ => et_test (ev_op (ev_ix rfl hb rfl) (ev_len (ev_ix rfl hb rfl) (sq_of hl)) rv_I0)) (fun ht H1 e1 => ?_) (fun ht H1 e1 => ?_)
      · have hlt : (i : Int) < ((ns.map V.int).length : Int) := by
          rw [Bool.and_eq_true] at ht
          exact of_decide_eq_true ht.2
        rw [List.length_map] at hlt
        have hit : i < ns.length := by omega
        have hg : (ns.map V.int)[i]? = some (V.int ns[i]) := by
          rw [List.getElem?_map, List.getElem?_eq_getElem hit] <;> rfl
        refine q_asg (ev_op (ev_ix rfl (e1 _ _ hb) rfl) (ev_ix rfl (e1 _ _ hb) rfl) (rv_ixL (sq_of (e1 _ _ hl)) (atI_nat hg))) fun H2 e2 => ?_
        have e12 := e1.trans e2
        refine q_setL (j := 1) (e12 _ _ hb) (ev_op (ev_ix rfl (e12 _ _ hb) rfl) ev_c rv_I0) (ev_var rfl) ev_c (by simp) fun H3 e3 => ?_
        have hb3 : (upd H3 b (.lst [.ref l, .int ((i : Int) + 1), .int z, .int s0, .int c])) b = some (.lst [.ref l, .int ((i + 1 : Nat) : Int), .int z, .int s0, .int c]) := upd_same
        have hl3 : (upd H3 b (.lst [.ref l, .int ((i : Int) + 1), .int z, .int s0, .int c])) l = some (.lst (ns.map V.int)) := by
          rw [upd_ne (Ne.symm ne)]
          exact (e12.trans e3) _ _ hl
        have bt3 : But H (upd H3 b (.lst [.ref l, .int ((i : Int) + 1), .int z, .int s0, .int c])) b := But.upd (.of (e12.trans e3))
        refine s_if (et_test (ev_op (ev_var rfl) (ev_op ev_c ev_c (rv_I ⟨by decide, by decide, by decide⟩)) rv_I0)) (fun ht2 H4 e4 => ?_) (fun ht2 H4 e4 => ?_)
        · refine s_setL (j := 2) (e4 _ _ hb3) (ev_var rfl) (ev_var rfl) ev_c (by simp) fun H5 e5 => ?_
          refine ⟨_, rfl, ?_, But.upd ((bt3.ex e4).ex e5), i + 1, ns[i], s0, upd_same, hit, h0, h1⟩
          rw [upd_ne (Ne.symm ne)]
          exact (e4.trans e5) _ _ hl3
        · refine s_setL (j := 3) (e4 _ _ hb3) (ev_op (ev_op (ev_op (ev_op (ev_ix rfl (e4 _ _ hb3) rfl) ev_c (rv_I (mul64 (by omega) (by decide)))) (ev_op (ev_var rfl) ev_c (rv_I (show (2147483563 : Int) ≠ 0 by decide))) rv_I0) ev_c rv_I0) ev_c (rv_I (show (2147483629 : Int) ≠ 0 by decide))) (ev_var rfl) ev_c (by simp) fun H5 e5 => ?_
          have hp := modP (i := s0 * 40503 + (ns[i]).fmod 2147483563 + 1) (j := 2147483629) (by decide)
          refine ⟨_, rfl, ?_, But.upd ((bt3.ex e4).ex e5), i + 1, z, _, upd_same, hit, hp.1, by omega⟩
          rw [upd_ne (Ne.symm ne)]
          exact (e4.trans e5) _ _ hl3
      · exact ⟨none, rfl, e1 _ _ hl, .of e1, i, z, s0, e1 _ _ hb, hi, h0, h1⟩
    · rintro σ' H1 ⟨v2, rfl, hl1, bt1, i, z, s0, hb1, hi, h0, h1⟩
      refine q_when (et_test (ev_op (ev_ix rfl hb1 rfl) ev_c rv_I0)) (fun ht H2 e2 => ?_) (fun ht H2 e2 => ?_)
      · refine q_asg (ev_op (ev_ix rfl (e2 _ _ hb1) rfl) (ev_var rfl) (rv_I (show many ≠ 0 by omega))) fun H3 e3 => ?_
        have e23 := e2.trans e3
        refine q_setL (j := 2) (e23 _ _ hb1) (ev_op (ev_ix rfl (e23 _ _ hb1) rfl) (ev_var rfl) (rv_I (divG (b := 200) (by omega) (by omega) (by decide) (by decide)))) (ev_var rfl) ev_c (by simp) fun H4 e4 => ?_
        have hp := modP (i := z) (j := many) hm
        refine s_ret (ev_var rfl) fun H5 e5 => k _ _ hp.1 hp.2 ?_ ((But.upd (bt1.ex (e23.trans e4))).ex e5)
        refine BagAt.ext (n := n + 1) ⟨⟨i, _, s0, c, upd_same, hi, h0, h1, by omega⟩, ?_, ne⟩ e5 (Nat.le_refl _)
        rw [upd_ne (Ne.symm ne)]
        exact (e23.trans e4) _ _ hl1
      · refine q_setL (j := 4) (e2 _ _ hb1) (ev_op (ev_ix rfl (e2 _ _ hb1) rfl) ev_c rv_I0) (ev_var rfl) ev_c (by simp) fun H3 e3 => ?_
        have hb3 : (upd H3 b (.lst [.ref l, .int i, .int z, .int s0, .int ((c : Int) + 1)])) b = some (.lst [.ref l, .int i, .int z, .int s0, .int ((c : Int) + 1)]) := upd_same
        have hl3 : (upd H3 b (.lst [.ref l, .int i, .int z, .int s0, .int ((c : Int) + 1)])) l = some (.lst (ns.map V.int)) := by
          rw [upd_ne (Ne.symm ne)]
          exact (e2.trans e3) _ _ hl1
        have bt3 : But H (upd H3 b (.lst [.ref l, .int i, .int z, .int s0, .int ((c : Int) + 1)])) b := But.upd (bt1.ex (e2.trans e3))
        have hp1 := modP (i := s0) (j := 8191) (by decide)
        refine q_asg (ev_op (ev_op (ev_ix rfl hb3 rfl) (ev_ix rfl hb3 rfl) (rv_I (mul64 (by omega) (by omega)))) (ev_op (ev_op ev_c (ev_ix rfl hb3 rfl) (rv_I (mul64 (by decide) (by omega)))) (ev_op (ev_op (ev_ix rfl hb3 rfl) ev_c (rv_I (show (8191 : Int) ≠ 0 by decide))) ev_c rv_I0) (rv_I (mul64 (by omega) (by omega)))) rv_I0) fun H4 e4 => ?_
        have hcc : ((c : Int) + 1) * ((c : Int) + 1) ≤ 1000000 * 1000000 := Int.mul_le_mul (by omega) (by omega) (by omega) (by decide)
        have hcd : 0 ≤ ((c : Int) + 1) * ((c : Int) + 1) := Int.mul_nonneg (by omega) (by omega)
        refine q_setL (j := 3) (e4 _ _ hb3) (ev_op (ev_op (ev_op (ev_var rfl) (ev_op (ev_op (ev_ix rfl (e4 _ _ hb3) rfl) (ev_ix rfl (e4 _ _ hb3) rfl) (rv_I (mul64 (by omega) (by omega)))) (ev_ix rfl (e4 _ _ hb3) rfl) (rv_I (mul64 (by omega) (by omega)))) rv_I0) ev_c rv_I0) ev_c (rv_I (show (2147483629 : Int) ≠ 0 by decide))) (ev_var rfl) ev_c (by simp) fun H5 e5 => ?_
        generalize hs' : Int.fmod _ 2147483629 = s1
        have hs1 : 0 ≤ s1 ∧ s1 < 2147483629 := by
          rw [← hs']
          exact modP (by decide)
        have hp2 := modP (i := s1) (j := 7919) (by decide)
        refine s_ret (ev_op (ev_op (ev_op (ev_ix rfl upd_same rfl) ev_c (rv_I (divG (b := 64) (by decide) (by decide) (by decide) (by decide)))) (ev_op (ev_op (ev_ix rfl upd_same rfl) ev_c (rv_I (show (7919 : Int) ≠ 0 by decide))) ev_c (rv_I (mul64 (by omega) (by decide)))) rv_I0) (ev_var rfl) (rv_I (show many ≠ 0 by omega))) fun H6 e6 => ?_
        have hp := modP (i := s1.fdiv 71 + s1.fmod 7919 * 37) (j := many) hm
        refine k _ _ hp.1 hp.2 ?_ ((But.upd (bt3.ex (e4.trans e5))).ex e6)
        refine BagAt.ext (n := n + 1) ⟨⟨i, z, s1, c + 1, upd_same, hi, hs1.1, by omega, by omega⟩, ?_, ne⟩ e6 (Nat.le_refl _)
        rw [upd_ne (Ne.symm ne)]
        exact (e4.trans e5) _ _ hl3
end
end Hs
namespace Hs
open PySem PySem.Spec PyProof.Rows L2 Evl
theorem cut63 {xs : List V} (h : xs.length ≤ 63) : cutV xs none (some 63) = xs := by
  have e1 : HT.sIx xs.length 0 none = 0 := rfl
  have e2 : HT.sIx xs.length xs.length (some 63) = xs.length := by
    show min (63 : Int).toNat xs.length = xs.length
    omega
  unfold cutV
  rw [e1, e2, List.drop_zero, Nat.sub_zero, List.take_length]
section
variable {P : Program} {w : World} {K : PySem.W.Frag} {mg : Str → Option Value} {base : Heap} {f : Addr} {fd : FuncData}
abbrev sBag : Stmt := top 17
theorem scBag : FnScope ["_law_script", "_law_salt", "_law_cell"] ["_law_script"] (defScope sBag) := ⟨rfl, rfl, rfl, by decide +kernel, rfl, by decide +kernel, by decide +kernel⟩
theorem ok_bag (F : FnP K "_law_bag" sBag f fd) (g_len : mg "len" = none) (g_list : mg "list" = none) : FnOk P w K mg base CX0 1 f fd ["_law_script"] (spBag K) := by
  have nd := scBag.nd
  refine F.ok scBag (fun vs H Q E h => ?_) (fun cdv A outer s H vs Q E hr h => ⟨_, PSs.nox (pss_cons (ps_set (i := 1) nd rfl (.inl rfl) (pe_op op_add pe_int (pe_callB (r := Evl.rLenS K) call_len_seq (by rfl) g_len PySem.boot_len (pa_cons (pe_slice sl_list (pv 0) po_none (po_some pe_int)) pa_nil))))
  (pss_cons (ps_for PassesOwn.never rfl (pi_list (pe_slice sl_list (pv 0) po_none (po_some pe_int))) (pg_name (i := 2) nd rfl (.inl rfl)) (pss_one (ps_set (i := 1) nd rfl (.inl rfl) (pe_op op_modN (pe_op op_add (pe_op op_add (pe_op op_mulW (pv 1) pe_int) (pe_op op_modN (pv 2) pe_int)) pe_int) pe_int))))
  (pss_one (ps_ret (pe_lst (pa_cons (pe_callTy (r := Evl.rListS K) call_list_of (by rfl) g_list (by decide +kernel) (pa_cons (pe_slice sl_list (pv 0) po_none (po_some pe_int)) pa_nil)) (pa_cons pe_int (pa_cons pe_int (pa_cons (pv 1) (pa_cons pe_int pa_nil)))))))))), ?_⟩)
  · obtain ⟨a, ns, rfl, _⟩ := h
    rfl
  · obtain ⟨a, ns, rfl, hS, hl, k⟩ := h
    have hl2 : (ns.map V.int).length ≤ 63 := by rw [List.length_map]; exact hl
    have sl : ∀ {σ : L2.St} {H' : Hp}, σ[0]? = some (some (.ref a)) → Ex H H' → EvL (tSl (rSlL K) (tVar 0) tNoPart (tPart (tC (.int 63)))) σ H' (ns.map V.int) := fun {σ H'} h0 e => by
      have q := el_sl (K := K) (σ := σ) (H := H') (ev_var h0) eo_none (eo_some (i := 63) ev_c) (ex_l e hS)
      rw [cut63 hl2] at q
      exact q
    refine q_asg (ev_op ev_c (ev_lenN (sl rfl (Ex.refl H))) rv_I0) fun H1 e1 => ?_
    refine q_forNLn (sl rfl e1) (fun p i σ' H' => Ex H H' ∧ H' p = some (.lst (ns.map V.int)) ∧ ∃ (s0 : Int) (v : Option V), σ' = [some (.ref a), some (.int s0), v] ∧ 0 ≤ s0 ∧ s0 < 2147483647) ?_ ?_ ?_ ?_
    · intro p H2 hp e2 h2
      exact ⟨e1.trans e2, h2, _, none, rfl, by omega, by omega⟩
    · rintro p i σ' H' hi ⟨_, h, _⟩
      exact sq_of h
    · rintro p i x σ' H' hx ⟨e, h, s0, v, rfl, h0, h1⟩
      obtain ⟨z, rfl⟩ : ∃ z, x = V.int z := by
        rw [List.getElem?_map] at hx
        cases ez : ns[i]? with
        | none =>
          rw [ez] at hx
          cases hx
        | some z =>
          rw [ez] at hx
          exact ⟨z, (Option.some.inj hx).symm⟩
      refine s_asg (ev_op (ev_op (ev_op (ev_op (ev_var rfl) ev_c (rv_I (mul64 (by omega) (by decide)))) (ev_op (ev_var rfl) ev_c (rv_I (show (2147483629 : Int) ≠ 0 by decide))) rv_I0) ev_c rv_I0) ev_c (rv_I (show (2147483647 : Int) ≠ 0 by decide))) fun H2 e2 => ?_
      have hp := modP (i := s0 * 48271 + z.fmod 2147483629 + 7) (j := 2147483647) (by decide)
      exact ⟨e.trans e2, e2 _ _ h, _, _, rfl, hp.1, hp.2⟩
    · rintro p σ' H' ⟨e, h, s0, v, rfl, h0, h1⟩
      refine sl (σ := [some (.ref a), some (.int s0), v]) rfl e H' (Ex.refl _) _ fun q H2 hq e2 h2 => ⟨q, _, rfl, .inl (sq_of h2), fun l hl3 => ⟨_, rfl, sz_of (by simp), fun b hb3 => ?_⟩⟩
      have hne : l ≠ b := fun z => by
        rw [← z, upd_same] at hb3
        cases hb3
      have e3 : Ex H (upd H2 l (.lst (ns.map V.int))) := (e.trans e2).trans (Ex.new hl3)
      refine k b l _ (fresh_back e3 hb3) (fresh_back (e.trans e2) hl3) ⟨⟨0, 0, s0, 0, upd_same, Nat.zero_le _, h0, h1, Nat.le_refl _⟩, ?_, Ne.symm hne⟩ (e3.trans (Ex.new hb3))
      rw [upd_ne hne, upd_same]
end
end Hs
namespace Hs
open PySem PySem.Spec PyProof.Rows L2 Evl
/-! ### two data alike: the law's own comparison -/
def Sm (K : PySem.W.Frag) (H : Hp) : Nat → V → V → Prop
  | 0, _, _ => False
  | d + 1, u, v => (u = v ∧ flatV u = true) ∨ ∃ (a b : Addr) (xs ys : List V), u = .ref a ∧ v = .ref b ∧ ((SqL K H a xs ∧ SqL K H b ys) ∨ (SqT K H a xs ∧ SqT K H b ys)) ∧ xs.length = ys.length ∧ xs.length ≤ 1000 ∧
      ∀ (i : Nat) (x y : V), xs[i]? = some x → ys[i]? = some y → Sm K H d x y
theorem Sm.ext {K : PySem.W.Frag} {H H' : Hp} (e : Ex H H') : ∀ {d : Nat} {u v : V}, Sm K H d u v → Sm K H' d u v
  | 0, _, _, h => h.elim
  | d + 1, u, v, h => by
    rcases h with h | ⟨a, b, xs, ys, h1, h2, h3, h4, h5, h6⟩
    · exact .inl h
    · refine .inr ⟨a, b, xs, ys, h1, h2, ?_, h4, h5, fun i x y hx hy => Sm.ext e (h6 i x y hx hy)⟩
      rcases h3 with ⟨p, q⟩ | ⟨p, q⟩
      · exact .inl ⟨ex_l e p, ex_l e q⟩
      · exact .inr ⟨ex_t e p, ex_t e q⟩
def spSame (K : PySem.W.Frag) (d : Nat) : Sp := fun vs H Q _ => ∃ u v : V, vs = [u, v] ∧ Sm K H d u v ∧ RetV (.bl true) H Q
/-- of the built-in type t, whatever is new -/
def Ty (K : PySem.W.Frag) (H : Hp) (x : V) (t : String) : Prop := ∀ H1, Ex H H1 → TyX K H1 x (.type t)
theorem ty_l {K : PySem.W.Frag} {H : Hp} {a : Addr} {xs : List V} (h : SqL K H a xs) : Ty K H (.ref a) "list" := fun H1 e => by
  rcases ex_l e h with (h | ⟨o, h⟩) | ⟨o, its, n, h1, h2, _⟩
  · exact .base (.lst h)
  · exact .base (.frz h)
  · exact .kList h1 h2
theorem ty_t {K : PySem.W.Frag} {H : Hp} {a : Addr} {xs : List V} (h : SqT K H a xs) : Ty K H (.ref a) "tuple" := fun H1 e => by
  rcases ex_t e h with (h | ⟨o, h⟩) | ⟨o, its, n, h1, h2, _⟩
  · exact .base (.tup h)
  · exact .fTuple h
  · exact .kTuple h1 h2
theorem ty_bl {K : PySem.W.Frag} {H : Hp} {b : Bool} : Ty K H (.bl b) "bool" := fun _ _ => .base (.bl b)
theorem ty_int {K : PySem.W.Frag} {H : Hp} {b : Int} : Ty K H (.int b) "int" := fun _ _ => .base (.int b)
theorem ty_str {K : PySem.W.Frag} {H : Hp} {b : Str} : Ty K H (.str b) "str" := fun _ _ => .base (.str b)
theorem ev_isi {K : PySem.W.Frag} {σ : L2.St} {H : Hp} {te : TE} {x : V} {t c : String} {b : Bool} (h : Ev te σ H x) (ht : Ty K H x t) (hk : kitB t c = some b) : Ev (tCB (rIsi K) (tCons te (tCons (tC (.ty c)) tNil))) σ H (.bl b) := fun H1 e Q q =>
  h H1 e _ fun H2 e2 => ⟨x, .ty c, .type t, .type c, b, rfl, .ty c, ht H2 (e.trans e2), kit_ty hk, q H2 e2⟩
theorem ev_isi2 {K : PySem.W.Frag} {σ : L2.St} {H : Hp} {te : TE} {x : V} {t c c' : String} {b b' : Bool} (h : Ev te σ H x) (ht : Ty K H x t) (hk : kitB t c = some b) (hk' : kitB t c' = some b') :
    Ev (tCB (rIsiT K) (tCons te (tCons (tTup (tCons (tC (.ty c)) (tCons (tC (.ty c')) tNil))) tNil))) σ H (.bl (b || b')) := fun H1 e Q q =>
  h H1 e _ fun H2 e2 => ⟨sz_of (by simp), fun p hp => ⟨x, p, [.ty c, .ty c'], .type t, [.type c, .type c'], b || b', rfl, upd_same, .cons (.ty c) (.cons (.ty c') .nil), ht _ ((e.trans e2).trans (Ex.new hp)), by
    refine kitAny_cons (kit_ty hk) (fun hb => ?_) (fun hb => by rw [hb] <;> rfl)
    rw [hb, Bool.false_or]
    exact kitAny_cons (kit_ty hk') (fun hb' => by rw [hb']; exact kitAny_nil) (fun hb' => hb'), q _ (e2.trans (Ex.new hp))⟩⟩
theorem rv_ixQ {K : PySem.W.Frag} {H : Hp} {p : Addr} {xs : List V} {i : Int} {v : V} (h : SqL K H p xs ∨ SqT K H p xs) (ha : atI xs i = some v) : RV (rIx K) (.ref p) (.int i) H v := fun H1 e Q q => by
  rcases h with h | h
  · exact .inl (rv_ixL h ha H1 e Q q)
  · exact .inr (.inl (rv_ixT h ha H1 e Q q))
theorem ev_lenQ {K : PySem.W.Frag} {σ : L2.St} {H : Hp} {ta : TE} {p : Addr} {xs : List V} (ha : Ev ta σ H (.ref p)) (h : SqL K H p xs ∨ SqT K H p xs) : Ev (tCB (rLenS K) (tCons ta tNil)) σ H (.int (xs.length : Int)) := fun H1 e Q q =>
  ha H1 e _ fun H2 e2 => ⟨p, xs, rfl, h.imp (fun h => ex_l (e.trans e2) h) (fun h => ex_t (e.trans e2) h), q H2 e2⟩
theorem given_true (n : Nat) : given n (fun _ => true) (fun _ => V.bl true) = (List.replicate n true).map V.bl := by
  induction n with
  | zero => rfl
  | succ n ih =>
    rw [given_yes rfl, ih, List.replicate_succ', List.map_append] <;> rfl
theorem ev_allT {K : PySem.W.Frag} {σ : L2.St} {H : Hp} {te : TE} {n : Nat} (h : EvL te σ H (given n (fun _ => true) (fun _ => V.bl true))) : Ev (tCB (rAll K) (tCons te tNil)) σ H (.bl true) := fun H1 e Q q =>
  h H1 e _ fun p H2 _ e2 h2 => ⟨p, List.replicate n true, rfl, sq_of (by rw [h2, given_true]), by
    have e3 : (List.replicate n true).all id = true := by simp
    rw [e3]
    exact q H2 e2⟩
theorem kb_bool_bool : kitB "bool" "bool" = some true := by decide +kernel
theorem kb_bool_int : kitB "bool" "int" = some true := by decide +kernel
theorem kb_bool_str : kitB "bool" "str" = some false := by decide +kernel
theorem kb_bool_list : kitB "bool" "list" = some false := by decide +kernel
theorem kb_bool_tuple : kitB "bool" "tuple" = some false := by decide +kernel
theorem kb_int_bool : kitB "int" "bool" = some false := by decide +kernel
theorem kb_int_int : kitB "int" "int" = some true := by decide +kernel
theorem kb_int_str : kitB "int" "str" = some false := by decide +kernel
theorem kb_int_list : kitB "int" "list" = some false := by decide +kernel
theorem kb_int_tuple : kitB "int" "tuple" = some false := by decide +kernel
theorem kb_str_bool : kitB "str" "bool" = some false := by decide +kernel
theorem kb_str_int : kitB "str" "int" = some false := by decide +kernel
theorem kb_str_str : kitB "str" "str" = some true := by decide +kernel
theorem kb_str_list : kitB "str" "list" = some false := by decide +kernel
theorem kb_str_tuple : kitB "str" "tuple" = some false := by decide +kernel
theorem kb_list_bool : kitB "list" "bool" = some false := by decide +kernel
theorem kb_list_int : kitB "list" "int" = some false := by decide +kernel
theorem kb_list_str : kitB "list" "str" = some false := by decide +kernel
theorem kb_list_list : kitB "list" "list" = some true := by decide +kernel
theorem kb_list_tuple : kitB "list" "tuple" = some false := by decide +kernel
theorem kb_tuple_bool : kitB "tuple" "bool" = some false := by decide +kernel
theorem kb_tuple_int : kitB "tuple" "int" = some false := by decide +kernel
theorem kb_tuple_str : kitB "tuple" "str" = some false := by decide +kernel
theorem kb_tuple_list : kitB "tuple" "list" = some false := by decide +kernel
theorem kb_tuple_tuple : kitB "tuple" "tuple" = some true := by decide +kernel
section
variable {P : Program} {w : World} {K : PySem.W.Frag} {mg : Str → Option Value} {base : Heap} {f : Addr} {fd : FuncData}
abbrev sSame : Stmt := top 20
theorem scSame : FnScope ["_law_got", "_law_due", "_law_k"] ["_law_got", "_law_due"] (defScope sSame) := ⟨rfl, rfl, rfl, by decide +kernel, rfl, by decide +kernel, by decide +kernel⟩
theorem ok_same (F : FnP K "_law_same" sSame f fd) (m : mg "_law_same" = some (.ref f)) (g_len : mg "len" = none) (g_isinstance : mg "isinstance" = none) (g_bool : mg "bool" = none) (g_int : mg "int" = none) (g_str : mg "str" = none) (g_list : mg "list" = none) (g_tuple : mg "tuple" = none)
    (g_all : mg "all" = none) (g_range : mg "range" = none) : ∀ d, FnOk P w K mg base CX0 d f fd ["_law_got", "_law_due"] (spSame K d)
  | 0 => ⟨fun _ _ _ _ h => by
      obtain ⟨u, v, _, h, _⟩ := h
      exact h.elim, fun _ _ _ _ _ _ _ _ _ _ _ _ _ h => by
      obtain ⟨u, v, _, h, _⟩ := h
      exact h.elim⟩
  | d + 1 => by
    have O__law_same : Own P w K mg base d "_law_same" ["_law_got", "_law_due"] (spSame K d) := own_of F m (ok_same F m g_len g_isinstance g_bool g_int g_str g_list g_tuple g_all g_range d) fun _ _ _ _ _ _ us hl => match us, hl with | [_, _], _ => rfl
    have nd := scSame.nd
    refine F.ok scSame (fun vs H Q E h => ?_) (fun cdv A outer s H vs Q E hr h => ⟨_, PSs.nox (pss_cons (ps_if (PW.pt (pw_or (pt_cmpR op_isN (pv 1) pe_non (nomark _)) (pw_or1 (pt_cmpR op_isN (pv 0) pe_non (nomark _))))) (pss_one (ps_ret (pe_and (pe_cmpR op_isN (pv 1) pe_non (nomark _)) (pe_one (pe_cmpR op_isN (pv 0) pe_non (nomark _)))))) pss_nil)
  (pss_cons (ps_if (PW.pt (pw_or (pt_val (pe_callB (r := rIsi K) call_isi (by rfl) g_isinstance (by decide +kernel) (pa_cons (pv 1) (pa_cons (pe_bltn (v := .ty "bool") (by rfl) g_bool (by decide +kernel) rfl) pa_nil)))) (pw_or1 (pt_val (pe_callB (r := rIsi K) call_isi (by rfl) g_isinstance (by decide +kernel) (pa_cons (pv 0) (pa_cons (pe_bltn (v := .ty "bool") (by rfl) g_bool (by decide +kernel) rfl) pa_nil))))))) (pss_one (ps_ret (pe_and (pe_callB (r := rIsi K) call_isi (by rfl) g_isinstance (by decide +kernel) (pa_cons (pv 1) (pa_cons (pe_bltn (v := .ty "bool") (by rfl) g_bool (by decide +kernel) rfl) pa_nil))) (pe_and (pe_callB (r := rIsi K) call_isi (by rfl) g_isinstance (by decide +kernel) (pa_cons (pv 0) (pa_cons (pe_bltn (v := .ty "bool") (by rfl) g_bool (by decide +kernel) rfl) pa_nil))) (pe_one (pe_cmpR op_eq (pv 0) (pv 1) (nomark _))))))) pss_nil)
  (pss_cons (ps_if (pt_val (pe_callB (r := rIsiT K) call_isiT (by rfl) g_isinstance (by decide +kernel) (pa_cons (pv 1) (pa_cons (pe_tup (pa_cons (pe_bltn (v := .ty "int") (by rfl) g_int (by decide +kernel) rfl) (pa_cons (pe_bltn (v := .ty "str") (by rfl) g_str (by decide +kernel) rfl) pa_nil))) pa_nil)))) (pss_one (ps_ret (pe_and (pe_cmpR op_eq (pe_callB (r := rIsi K) call_isi (by rfl) g_isinstance (by decide +kernel) (pa_cons (pv 0) (pa_cons (pe_bltn (v := .ty "int") (by rfl) g_int (by decide +kernel) rfl) pa_nil))) (pe_callB (r := rIsi K) call_isi (by rfl) g_isinstance (by decide +kernel) (pa_cons (pv 1) (pa_cons (pe_bltn (v := .ty "int") (by rfl) g_int (by decide +kernel) rfl) pa_nil))) (nomark _)) (pe_one (pe_cmpR op_eq (pv 0) (pv 1) (nomark _)))))) pss_nil)
  (pss_cons (ps_if (PW.pt (pw_or (pt_cmpR op_ne (pe_callB (r := rIsi K) call_isi (by rfl) g_isinstance (by decide +kernel) (pa_cons (pv 1) (pa_cons (pe_bltn (v := .ty "list") (by rfl) g_list (by decide +kernel) rfl) pa_nil))) (pe_callB (r := rIsi K) call_isi (by rfl) g_isinstance (by decide +kernel) (pa_cons (pv 0) (pa_cons (pe_bltn (v := .ty "list") (by rfl) g_list (by decide +kernel) rfl) pa_nil))) (nomark _)) (pw_or1 (pt_cmpR op_ne (pe_callB (r := rIsi K) call_isi (by rfl) g_isinstance (by decide +kernel) (pa_cons (pv 1) (pa_cons (pe_bltn (v := .ty "tuple") (by rfl) g_tuple (by decide +kernel) rfl) pa_nil))) (pe_callB (r := rIsi K) call_isi (by rfl) g_isinstance (by decide +kernel) (pa_cons (pv 0) (pa_cons (pe_bltn (v := .ty "tuple") (by rfl) g_tuple (by decide +kernel) rfl) pa_nil))) (nomark _))))) (pss_one (ps_ret pe_bl)) pss_nil)
  (pss_one (ps_ret (pe_and (pe_cmpR op_eq (pe_callB (r := Evl.rLenS K) call_len_seq (by rfl) g_len PySem.boot_len (pa_cons (pv 0) pa_nil)) (pe_callB (r := Evl.rLenS K) call_len_seq (by rfl) g_len PySem.boot_len (pa_cons (pv 1) pa_nil)) (nomark _)) (pe_one (pe_callB (r := rAll K) (cr_all rfl) (by rfl) g_all (by decide +kernel) (pa_cons (pe_lc (own := [("_law_k", 2)]) rfl nd (pi_range1 (by rfl) g_range (pa_cons (pe_callB (r := Evl.rLenS K) call_len_seq (by rfl) g_len PySem.boot_len (pa_cons (pv 1) pa_nil)) pa_nil)) (blkOk_by (N := ["_law_got", "_law_due", "_law_k"]) (sc := defScope (Hs.top 20)) (by decide +kernel)) (fun _ _ _ _ _ => (pg_name (i := 2) nd rfl (Or.inl rfl))) (fun _ _ _ _ _ => pts_nil) (fun _ _ _ _ _ => (Hs.pe_own O__law_same hr (by first | decide | omega) (by rfl) (pa_cons (pe_ix (r := rIx K) ix_seq (pv 0) (pv 2) (fun _ _ => rfl)) (pa_cons (pe_ix (r := rIx K) ix_seq (pv 1) (pv 2) (fun _ _ => rfl)) pa_nil))))) pa_nil)))))))))), ?_⟩)
    · obtain ⟨u, v, rfl, _⟩ := h
      rfl
    · obtain ⟨u, v, rfl, h, k⟩ := h
      rcases h with ⟨rfl, hf⟩ | ⟨a, b, xs, ys, rfl, rfl, hq, hlen, hz, hi⟩
      · cases u with
        | non =>
          refine q_when (et_or (et_test (ev_op (ev_var rfl) ev_c (rv_val fun H1 _ Q q => ⟨rfl, q⟩))) (fun _ => et_test (ev_op (ev_var rfl) ev_c (rv_val fun H1 _ Q q => ⟨rfl, q⟩)))) (fun ht H1 e1 => ?_) (fun ht => by simp at ht)
          exact s_ret (ev_is (ev_andV (ev_op (ev_var rfl) ev_c (rv_val fun H1 _ Q q => ⟨rfl, q⟩)) (fun _ => ev_op (ev_var rfl) ev_c (rv_val fun H1 _ Q q => ⟨rfl, q⟩))) (by simp)) fun H2 e2 => k _ (e1.trans e2)
        | bl y =>
          refine q_when (b := false) (et_is (et_or (et_test (ev_op (ev_var rfl) ev_c (rv_val fun H1 _ Q q => ⟨rfl, q⟩))) (fun _ => et_test (ev_op (ev_var rfl) ev_c (rv_val fun H1 _ Q q => ⟨rfl, q⟩)))) (by simp)) (fun ht => Bool.noConfusion ht) (fun _ H1 e1 => ?_)
          refine q_when (b := true) (et_is (et_or (et_B (ev_isi (ev_var rfl) ty_bl kb_bool_bool)) (fun _ => et_B (ev_isi (ev_var rfl) ty_bl kb_bool_bool))) (by simp)) (fun _ H2 e2 => ?_) (fun ht => Bool.noConfusion ht)
          exact s_ret (ev_is (ev_andV (ev_isi (ev_var rfl) ty_bl kb_bool_bool) (fun _ => ev_andV (ev_isi (ev_var rfl) ty_bl kb_bool_bool) (fun _ => ev_op (ev_var rfl) (ev_var rfl) (rv_eq rfl)))) (by simp)) fun H3 e3 => k _ ((e1.trans e2).trans e3)
        | int i =>
          refine q_when (b := false) (et_is (et_or (et_test (ev_op (ev_var rfl) ev_c (rv_val fun H1 _ Q q => ⟨rfl, q⟩))) (fun _ => et_test (ev_op (ev_var rfl) ev_c (rv_val fun H1 _ Q q => ⟨rfl, q⟩)))) (by simp)) (fun ht => Bool.noConfusion ht) (fun _ H1 e1 => ?_)
          refine q_when (b := false) (et_is (et_or (et_B (ev_isi (ev_var rfl) ty_int kb_int_bool)) (fun _ => et_B (ev_isi (ev_var rfl) ty_int kb_int_bool))) (by simp)) (fun ht => Bool.noConfusion ht) (fun _ H2 e2 => ?_)
          refine q_when (b := true) (et_is (et_B (ev_isi2 (ev_var rfl) ty_int kb_int_int kb_int_str)) (by simp)) (fun _ H3 e3 => ?_) (fun ht => Bool.noConfusion ht)
          exact s_ret (ev_is (ev_andV (ev_op (ev_isi (ev_var rfl) ty_int kb_int_int) (ev_isi (ev_var rfl) ty_int kb_int_int) (rv_eq rfl)) (fun _ => ev_op (ev_var rfl) (ev_var rfl) (rv_eq rfl))) (by simp)) fun H4 e4 => k _ (((e1.trans e2).trans e3).trans e4)
        | str x =>
          refine q_when (b := false) (et_is (et_or (et_test (ev_op (ev_var rfl) ev_c (rv_val fun H1 _ Q q => ⟨rfl, q⟩))) (fun _ => et_test (ev_op (ev_var rfl) ev_c (rv_val fun H1 _ Q q => ⟨rfl, q⟩)))) (by simp)) (fun ht => Bool.noConfusion ht) (fun _ H1 e1 => ?_)
          refine q_when (b := false) (et_is (et_or (et_B (ev_isi (ev_var rfl) ty_str kb_str_bool)) (fun _ => et_B (ev_isi (ev_var rfl) ty_str kb_str_bool))) (by simp)) (fun ht => Bool.noConfusion ht) (fun _ H2 e2 => ?_)
          refine q_when (b := true) (et_is (et_B (ev_isi2 (ev_var rfl) ty_str kb_str_int kb_str_str)) (by simp)) (fun _ H3 e3 => ?_) (fun ht => Bool.noConfusion ht)
          exact s_ret (ev_is (ev_andV (ev_op (ev_isi (ev_var rfl) ty_str kb_str_int) (ev_isi (ev_var rfl) ty_str kb_str_int) (rv_eq rfl)) (fun _ => ev_op (ev_var rfl) (ev_var rfl) (rv_eq rfl))) (by simp)) fun H4 e4 => k _ (((e1.trans e2).trans e3).trans e4)
        | _ => cases hf
      · have ta : ∀ {H' : Hp}, Ex H H' → (Ty K H' (.ref a) "list" ∧ Ty K H' (.ref b) "list") ∨ (Ty K H' (.ref a) "tuple" ∧ Ty K H' (.ref b) "tuple") := fun {H'} e => by
          rcases hq with ⟨p, q⟩ | ⟨p, q⟩
          · exact .inl ⟨ty_l (ex_l e p), ty_l (ex_l e q)⟩
          · exact .inr ⟨ty_t (ex_t e p), ty_t (ex_t e q)⟩
        have qa : ∀ {H' : Hp}, Ex H H' → SqL K H' a xs ∨ SqT K H' a xs := fun {H'} e => hq.imp (fun h => ex_l e h.1) (fun h => ex_t e h.1)
        have qb : ∀ {H' : Hp}, Ex H H' → SqL K H' b ys ∨ SqT K H' b ys := fun {H'} e => hq.imp (fun h => ex_l e h.2) (fun h => ex_t e h.2)
        refine q_when (b := false) (et_is (et_or (et_test (ev_op (ev_var rfl) ev_c (rv_val fun H1 _ Q q => ⟨rfl, q⟩))) (fun _ => et_test (ev_op (ev_var rfl) ev_c (rv_val fun H1 _ Q q => ⟨rfl, q⟩)))) (by simp)) (fun ht => Bool.noConfusion ht) (fun _ H1 e1 => ?_)
        have t2 : ∀ {σ : L2.St} {H' : Hp}, σ[0]? = some (some (.ref a)) → σ[1]? = some (some (.ref b)) → Ex H H' → Ev (tCB (rIsi K) (tCons (tVar 1) (tCons (tC (.ty "bool")) tNil))) σ H' (.bl false) ∧ Ev (tCB (rIsi K) (tCons (tVar 0) (tCons (tC (.ty "bool")) tNil))) σ H' (.bl false) ∧
            Ev (tCB (rIsiT K) (tCons (tVar 1) (tCons (tTup (tCons (tC (.ty "int")) (tCons (tC (.ty "str")) tNil))) tNil))) σ H' (.bl false) ∧
            ∃ b1 b2, Ev (tCB (rIsi K) (tCons (tVar 1) (tCons (tC (.ty "list")) tNil))) σ H' (.bl b1) ∧ Ev (tCB (rIsi K) (tCons (tVar 0) (tCons (tC (.ty "list")) tNil))) σ H' (.bl b1) ∧ Ev (tCB (rIsi K) (tCons (tVar 1) (tCons (tC (.ty "tuple")) tNil))) σ H' (.bl b2) ∧ Ev (tCB (rIsi K) (tCons (tVar 0) (tCons (tC (.ty "tuple")) tNil))) σ H' (.bl b2) := fun {σ H'} h0 h1 e => by
          rcases ta e with ⟨p, q⟩ | ⟨p, q⟩
          · exact ⟨ev_isi (ev_var h1) q kb_list_bool, ev_isi (ev_var h0) p kb_list_bool, ev_isi2 (ev_var h1) q kb_list_int kb_list_str, true, false, ev_isi (ev_var h1) q kb_list_list, ev_isi (ev_var h0) p kb_list_list, ev_isi (ev_var h1) q kb_list_tuple, ev_isi (ev_var h0) p kb_list_tuple⟩
          · exact ⟨ev_isi (ev_var h1) q kb_tuple_bool, ev_isi (ev_var h0) p kb_tuple_bool, ev_isi2 (ev_var h1) q kb_tuple_int kb_tuple_str, false, true, ev_isi (ev_var h1) q kb_tuple_list, ev_isi (ev_var h0) p kb_tuple_list, ev_isi (ev_var h1) q kb_tuple_tuple, ev_isi (ev_var h0) p kb_tuple_tuple⟩
        obtain ⟨i1, i2, _⟩ := t2 (σ := [some (.ref a), some (.ref b), none]) rfl rfl e1
        refine q_when (b := false) (et_is (et_or (et_B i1) (fun _ => et_B i2)) (by simp)) (fun ht => Bool.noConfusion ht) (fun _ H2 e2 => ?_)
        obtain ⟨_, _, i3, _⟩ := t2 (σ := [some (.ref a), some (.ref b), none]) rfl rfl (e1.trans e2)
        refine q_when (b := false) (et_B i3) (fun ht => Bool.noConfusion ht) (fun _ H3 e3 => ?_)
        have e03 := (e1.trans e2).trans e3
        obtain ⟨_, _, _, b1, b2, j1, j2, j3, j4⟩ := t2 (σ := [some (.ref a), some (.ref b), none]) rfl rfl e03
        refine q_when (b := false) (et_is (et_or (et_test (ev_op j1 j2 (rv_ne rfl))) (fun _ => et_test (ev_op j3 j4 (rv_ne rfl)))) (by simp)) (fun ht => Bool.noConfusion ht) (fun _ H4 e4 => ?_)
        have e04 := e03.trans e4
        refine s_ret (ev_is (ev_andV (ev_op (ev_lenQ (ev_var rfl) (qa e04)) (ev_lenQ (ev_var rfl) (qb e04)) (rv_eq rfl)) (fun _ => ev_allT (n := ys.length) ?_)) (by simp [hlen])) fun H5 e5 => k _ (e04.trans e5)
        refine el_lcR1 (n := (ys.length : Int)) (fun _ => true) (fun _ => V.bl true) (ea_cons (ev_lenQ (ev_var rfl) (qb e04)) ea_nil) (by omega) (fun x => rfl) (fun i H6 e6 hi6 H7 e7 Q' q' => q' H7 (Ex.refl H7)) (fun i H6 e6 hi6 _ => ?_)
        have hiy : i < ys.length := by omega
        have hix : i < xs.length := by omega
        have gx : xs[i]? = some xs[i] := List.getElem?_eq_getElem hix
        have gy : ys[i]? = some ys[i] := List.getElem?_eq_getElem hiy
        have e06 := e04.trans e6
        exact ev_call (ea_cons (ev_op (ev_var rfl) (ev_var rfl) (rv_ixQ (qa e06) (atI_nat gx))) (ea_cons (ev_op (ev_var rfl) (ev_var rfl) (rv_ixQ (qb e06) (atI_nat gy))) ea_nil)) fun H7 e7 Q' q' E' => ⟨_, _, rfl, (hi i _ _ gx gy).ext (e06.trans e7), q'⟩
end
end Hs
namespace Hs
open PySem PySem.Spec PyProof.Rows L2
/-! ### own error classes whose __init__ begins with super().__init__(..) -/
section
open PySem.W
variable {prog : Program} {w : World} {A : Around} {E : Value → Shared → Prop} {h : Heap} {g : Array GenState} {d : Drawn} {t : Nat} {os : OsState}
variable {nm q : Str} {C N : Addr} {bs bm bmB : List Value} {hdct : Bool} {sn : List Str} {sub : List Value} {ab : Bool} {col : Option Bool} {dd : Option Addr} {k0 k1 k2 k3 k5 : Option Value} {B newId initId : String}
theorem call_mw (FB : ExcBaseFacts B newId initId bmB) {u e t0 : Addr} {rest : List Value} {Q : Value → Shared → Prop}
    (hC : h.get? C = some (excClassObj nm q C N bs bm hdct sn sub ab col dd k0 k1 k2 k3 k5 newId)) (he : h.get? e = some (HandSPX.excO C t0)) (hu : h.get? u = some (kxs_mw initId e)) (hrest : rest.length ≤ sizeLine)
    (hq : ∀ h' t1, (∀ b o, b ≠ e → h.get? b = some o → h'.get? b = some o) → h'.get? e = some (HandSPX.excO C t1) → Q .none ⟨h', g, d, t, os⟩) :
    wpAny (model prog w) A (call (.ref u) rest) Q E ⟨h, g, d, t, os⟩ := by
  refine wpAny_call (codeAny_of_tree ?_)
  show wpAny _ A.in1 (callAny (.ref u) ⟨rest, []⟩) _ _ _
  simp only [callAny]
  refine wpAny_bind (wpAny_load hu ?_)
  simp only [kxs_mw, show (Value.type "method-wrapper" == Value.type "method" || Value.type "method-wrapper" == Value.type "builtin_function_or_method" || Value.type "method-wrapper" == Value.type "method-wrapper") = true by decide, if_true]
  refine KFB.if_so (by decide) ?_
  refine wpAny_bind (ESX.check_bound FB hC he rfl ?_)
  refine wpAny_bind (wpAny_pure (wpAny_pure ?_))
  refine ⟨plainId_quiet FB.init.plain _, codeAny_builtin FB.initEntry ?_⟩
  exact exc_init_tree (cls := .ref C) (t0 := t0) (dv := none) (c2 := .none) (c3 := .none) (b4 := .bool false) he hrest fun h' k e' _ => hq h' _ k e'
end
end Hs
namespace Hs
open PySem PySem.Spec PyProof.Rows L2
/-! ### own errors over any of Python's plain bases -/
/-- what is known of a base of Python's -/
structure BasX (B newId initId : String) (bmB : List Value) : Prop where
  eb : ExcBaseFacts B newId initId bmB
  st : StoreFacts B bmB "object.__setattr__" "object"
  kx : PySem.W.KxsFacts B initId
abbrev tailOf (B : String) : List Value := [.type B, .type "Exception", .type "BaseException", .type "object"]
theorem basV : BasX "ValueError" "ValueError.__new__" "ValueError.__init__" (tailOf "ValueError") := ⟨F.excBase_ValueError, F.store_ValueError, PySem.W.kxs_ValueError⟩
theorem basR : BasX "RuntimeError" "RuntimeError.__new__" "RuntimeError.__init__" (tailOf "RuntimeError") := ⟨F.excBase_RuntimeError, F.store_RuntimeError, PySem.W.kxs_RuntimeError⟩
theorem basL : BasX "LookupError" "LookupError.__new__" "LookupError.__init__" (tailOf "LookupError") := ⟨F.excBase_LookupError, F.store_LookupError, PySem.W.kxs_LookupError⟩
/-- an own class over such a base, as it is written -/
structure OexG (K : PySem.W.Frag) (C : Addr) (newId : String) (bmB : List Value) : Prop where
  cls : ∃ nm q N bs bm sn sub ab col dd k0 k1 k2 k3 k5, K.lookup C = some (excClassObj nm q C N bs bm true sn sub ab col dd k0 k1 k2 k3 k5 newId) ∧ PySem.W.excTail bmB bm = true
  sa : PySem.W.findIn K (.ref C) "__setattr__" = some (some (.builtin "object.__setattr__"))
  exC : PySem.W.subIn K (.ref C) (.type "BaseException") = some true
  tyC : PySem.W.typeIn K (.ref C) = some (.type "type")
  kC : PySem.W.keepIn K (.ref C) = true
section
variable {K : PySem.W.Frag} {C : Addr} {newId : String} {bmB : List Value}
theorem OexG.over (T : OexG K C newId bmB) : PySem.W.excOver K C bmB = true := by
  obtain ⟨nm, q, N, bs, bm, sn, sub, ab, col, dd, k0, k1, k2, k3, k5, hC, ht⟩ := T.cls
  unfold PySem.W.excOver PySem.W.clsIn
  rw [hC]
  show ((C == C) && PySem.W.excTail bmB bm) = true
  simp [ht]
theorem OexG.cd (T : OexG K C newId bmB) : ∃ cd, PySem.W.clsIn K C = some cd ∧ cd.hasDict = true := by
  obtain ⟨nm, q, N, bs, bm, sn, sub, ab, col, dd, k0, k1, k2, k3, k5, hC, ht⟩ := T.cls
  refine ⟨{ name := nm, bases := bs, mro := .ref C :: bm, ns := N, qualname := q, hasDict := true, slotNames := sn, subclasses := sub, abstract := ab, collection := col, hasDel := false }, ?_, rfl⟩
  unfold PySem.W.clsIn
  rw [hC] <;> rfl
theorem taker_no {f : Str} (h : PySem.W.findIn K (.ref C) f = some none) : PySem.W.takerIn K C f = some none := by
  unfold PySem.W.takerIn
  rw [h] <;> rfl
end
section
open Builtin Builtin.ObjectAttr
variable {prog : Program} {w : World} {A : Around} {R : Result → Shared → Prop} {hp : Heap} {g : Array GenState} {d : Drawn} {t : Nat} {os : OsState} {K : PySem.W.Frag} {C x : Addr} {B newId initId : String} {bmB : List Value}
/-- the first field: the dict is made -/
theorem put_new (bx : BasX B newId initId bmB) (T : OexG K C newId bmB) (kin : K.In hp) {fl : Str} {tk : Tok} {u : Value} {fv : Array Value} (hx : hp.get? x = some { cls := .ref C, data := .fields fv }) (hno : PySem.W.findIn K (.ref C) fl = some none)
    (fin : ∀ hq tq dx, (∀ b o, b ≠ x → hp.get? b = some o → hq.get? b = some o) → hp.objs.size ≤ dx → dx ≠ x → hq.get? x = some { cls := .ref C, dict := some dx, data := .fields fv } → hq.Ns1 dx (fun y => if y = fl then some u else none) → R (.ok (.ret .none)) ⟨hq, g, d, tq, os⟩) :
    codeAny (model prog w) A (.call (.builtin "object.__setattr__") ⟨[.ref x, .str fl tk, u], []⟩) R ⟨hp, g, d, t, os⟩ := by
  obtain ⟨cd, hcd, hdc⟩ := T.cd
  have lk : PySem.W.Looks (model prog w) hp (classData C) cd := PySem.W.looks_clsIn kin hcd
  have far : x ≠ hp.objs.size := Nat.ne_of_lt (Heap.lt_size hx)
  refine PySem.W.osa_openX (s := ⟨hp, g, d, t, os⟩) (od := none) (ox := { cls := .ref C, data := .fields fv }) bx.st kin ⟨hx, rfl, rfl, trivial⟩ T.over (taker_no hno) fun bb => ?_
  obtain ⟨c1, c2, c3, c4, c5, c6, c7, c8, c9, c10, c11⟩ := cd
  dsimp only at hdc
  subst hdc
  unfold storeInOwnDict ownDictForStores
  repeat (first | with_reducible refine HandSPX.store_in_new ?_ ?_ | with_reducible refine wpAny_loadPart_at hx ?_ | with_reducible refine lk.at ?_ | wp_step)
  · exact ⟨_, #[], _, (Heap.get?_update_ne _ _ _ _ far.symm).trans (Heap.get?_push_at rfl rfl), rfl, fun z hz => absurd hz (by simp), fun _ => rfl⟩
  · intro hq tq hn sm
    have old : (hp.push { cls := .type "dict", data := .dict #[] }).get? x = some { cls := .ref C, data := .fields fv } := Heap.get?_push_of_some _ hx
    refine fin hq tq hp.objs.size (fun b o nb ho => ?_) (Nat.le_refl _) far.symm ((sm.2 x far).trans (Heap.get?_update_self _ old rfl)) hn
    rw [sm.2 b (Nat.ne_of_lt (Heap.lt_size ho)), Heap.get?_update_ne _ _ _ _ nb]
    exact Heap.get?_push_of_some _ ho
/-- a further field -/
theorem put_more (bx : BasX B newId initId bmB) (T : OexG K C newId bmB) (kin : K.In hp) {fl : Str} {tk : Tok} {u : Value} {fv : Array Value} {dx : Addr} {m0 : Str → Option Value} {nl : List Str} (hx : hp.get? x = some { cls := .ref C, dict := some dx, data := .fields fv }) (hns : hp.Ns1 dx m0) (hw : Within m0 nl) (hz : nl.length ≤ 1000) (hno : PySem.W.findIn K (.ref C) fl = some none)
    (fin : ∀ hq tq, (∀ b o, b ≠ dx → hp.get? b = some o → hq.get? b = some o) → hq.Ns1 dx (fun y => if y = fl then some u else m0 y) → R (.ok (.ret .none)) ⟨hq, g, d, tq, os⟩) :
    codeAny (model prog w) A (.call (.builtin "object.__setattr__") ⟨[.ref x, .str fl tk, u], []⟩) R ⟨hp, g, d, t, os⟩ := by
  obtain ⟨cd, hcd, hdc⟩ := T.cd
  have lk : PySem.W.Looks (model prog w) hp (classData C) cd := PySem.W.looks_clsIn kin hcd
  obtain ⟨oD, q1, q2, hoD, q3, q4⟩ := hns.count hw
  refine PySem.W.osa_openX (s := ⟨hp, g, d, t, os⟩) (od := some oD) (ox := { cls := .ref C, dict := some dx, data := .fields fv }) bx.st kin ⟨hx, rfl, rfl, hoD⟩ T.over (taker_no hno) fun bb => ?_
  obtain ⟨c1, c2, c3, c4, c5, c6, c7, c8, c9, c10, c11⟩ := cd
  dsimp only at hdc
  subst hdc
  unfold storeInOwnDict ownDictForStores
  repeat (first | with_reducible refine OEX.store_in_old hns hw hz ?_ | with_reducible refine wpAny_loadPart_at hx ?_ | with_reducible refine lk.at ?_ | wp_step)
  exact fun hq tq hn sm => fin hq tq (fun b o nb ho => (sm.2 b nb).trans ho) hn
end
section
variable {X : Cx} {pins : List (Addr × Obj)} {σ : L2.St} {H : Hp} {s : Shared} {a C dx : Addr} {fl : Str} {y : V} {u : Value} {fs : List (Str × V)} {Q : Unit → Shared → Prop} {E : Value → Shared → Prop} {A : Around} {B newId initId : String} {bmB : List Value}
theorem set_new (bx : BasX B newId initId bmB) (T : OexG X.K C newId bmB) (I : Inv X pins σ H s) (ea : H a = some (exo a C none)) (hno : PySem.W.findIn X.K (.ref C) fl = some none) (ry : RelV y u)
    (k : ∀ dx s', H dx = none → dx ≠ a → Inv X pins σ (upd (upd H dx (exd dx [(fl, y)])) a (exo a C (some dx))) s' → Q () s') : wpAny (model X.prog X.w) A (setAttr (.ref a) fl u) Q E s := by
  obtain ⟨t1, ho⟩ := exo_at I.hok ea
  obtain ⟨hp, g, d, t, os⟩ := s
  refine PySem.W.set_plain (od := none) I.kIn (ox := { cls := .ref C, dict := none, data := .fields #[.ref t1, .none, .none, .none, .bool false, .none] }) ⟨ho, rfl, rfl, trivial⟩ T.sa ?_
  refine put_new bx T I.kIn ho hno fun hq tq dx stay dn dne hx hn => ?_
  have fresh : H dx = none := I.hok.fresh dn
  have nda : ∀ {b : Addr}, H b = none → b ≠ a := fun nb z => by
    rw [z, ea] at nb
    cases nb
  have ndx : ∀ {b : Addr} {ob : Obj}, hp.get? b = some ob → b ≠ dx := fun qq => Nat.ne_of_lt (Nat.lt_of_lt_of_le (Heap.lt_size qq) dn)
  have two : ∀ {b : Addr} {v : HO}, H b = some v → exo a C none ≠ v → upd (upd H dx (exd dx [(fl, y)])) a (exo a C (some dx)) b = some v := fun {b v} hb hne => by
    rw [upd_ne (at_ne ea hb hne), upd_ne (ne_of_none hb fresh)]
    exact hb
  have un : Un X.fs [] H (upd (upd H dx (exd dx [(fl, y)])) a (exo a C (some dx))) hp hq := by
    constructor
    · exact fun b o hb nb _ _ => stay b o (nda nb) hb
    · exact fun b o hb nb _ _ => ⟨o.slots, stay b o (nda nb) hb⟩
    · intro b o hb nb _
      rw [upd_ne (nda nb), upd_ne (ndx hb)]
      exact nb
    · intro b o hb _
      by_cases e : b = a
      · rw [e]
        exact ⟨_, hx⟩
      · exact ⟨o, stay b o e hb⟩
    · exact fun b xs hb => two hb exo_tup
    · exact fun b o v hb => two hb exo_frz
    · intro b ps hb
      refine ⟨#[], ?_⟩
      rw [two hb exo_tbl, Array.append_empty]
  refine k dx _ fresh dne (I.un (t' := tq) un fun b o hb => ?_)
  by_cases e1 : b = a
  · rw [e1, upd_same] at hb
    cases hb
    rw [e1]
    exact exo_ok hx
  · rw [upd_ne e1] at hb
    by_cases e2 : b = dx
    · rw [e2, upd_same] at hb
      cases hb
      rw [e2]
      exact exd_ok hn (relO_put (fs := []) ry fun _ => True.intro)
    · rw [upd_ne e2] at hb
      refine (I.hok b o hb).stay (fun c v hc hv => stay c v ?_ hv) (fun c hc => two hc exo_own) (fun c xs hc => two hc exo_tup)
      rcases hc with rfl | hc
      · exact e1
      · exact at_ne ea hc exo_own
theorem set_more (bx : BasX B newId initId bmB) (T : OexG X.K C newId bmB) (I : Inv X pins σ H s) (ea : H a = some (exo a C (some dx))) (ed : H dx = some (exd dx fs)) (hl : fs.length ≤ 900) (hno : PySem.W.findIn X.K (.ref C) fl = some none) (ry : RelV y u)
    (k : ∀ s', Inv X pins σ (upd H dx (exd dx ((fl, y) :: fs))) s' → Q () s') : wpAny (model X.prog X.w) A (setAttr (.ref a) fl u) Q E s := by
  obtain ⟨t1, ho⟩ := exo_at I.hok ea
  obtain ⟨mA, hns, rel⟩ := exd_at I.hok ed
  obtain ⟨oD, _, _, hoD, _, _⟩ := hns.count (within_of rel)
  obtain ⟨hp, g, d, t, os⟩ := s
  refine PySem.W.set_plain (od := some oD) I.kIn (ox := { cls := .ref C, dict := some dx, data := .fields #[.ref t1, .none, .none, .none, .bool false, .none] }) ⟨ho, rfl, rfl, hoD⟩ T.sa ?_
  refine put_more bx T I.kIn ho hns (within_of rel) (by rw [List.length_map]; omega) hno fun hq tq stay hn => k _ ?_
  refine I.write (t' := tq) (x := dx) (e := dx) (by rw [ed]; exact True.intro) (.inl rfl) stay ?_ (exd_ok hn (relO_put ry rel))
  obtain ⟨oq, _, _, hoq, _⟩ := hn
  exact ⟨oq, hoq⟩
end
/-- self.f = e, of an error that is being made -/
def tPut (K : PySem.W.Frag) (newId : String) (bmB : List Value) (fl : Str) (to te : TE) : TS := fun D σ H => te σ H fun y H1 => to σ H1 fun x H2 => ∃ a C : Addr, x = .ref a ∧ OexG K C newId bmB ∧ PySem.W.findIn K (.ref C) fl = some none ∧
  ((H2 a = some (exo a C none) ∧ ∀ dx, H2 dx = none → dx ≠ a → D.nx σ (upd (upd H2 dx (exd dx [(fl, y)])) a (exo a C (some dx)))) ∨
    ∃ (dx : Addr) (fs : List (Str × V)), (H2 a = some (exo a C (some dx)) ∧ H2 dx = some (exd dx fs) ∧ fs.length ≤ 900) ∧ D.nx σ (upd H2 dx (exd dx ((fl, y) :: fs))))
theorem ps_put {X : Cx} {o e : Expr} {to te : TE} {fl : Str} {p' pos : Pos} {B newId initId : String} {bmB : List Value} (bx : BasX B newId initId bmB) (ho : PE X o to) (he : PE X e te) (hs : swapsWith e (some (.Attribute o fl p')) pos.line X.env = pure false := by rfl) : PS X (.Assign [.Attribute o fl p'] e pos) (tPut X.K newId bmB fl to te) := by
  refine ⟨fun pins s σ H D I h => ?_⟩
  refine plainObj_wpAny_Assign_Attribute (thn (he.run pins s σ H _ I h) fun v s1 ⟨y, H1, I1, r1, q1⟩ => thn (ho.run pins s1 σ H1 _ I1 q1) fun ux s2 ⟨x, H2, I2, r2, hh⟩ => ?_) hs
  obtain ⟨a, C, rfl, T, hno, q⟩ := hh
  obtain rfl : ux = Value.ref a := r2
  rcases q with ⟨ea, q⟩ | ⟨dx, fs, ⟨ea, ed, hl⟩, q⟩
  · exact set_new bx T I2 ea hno r1 fun dx s' n ne J => ⟨σ, _, J, q dx n ne⟩
  · exact set_more bx T I2 ea ed hl hno r1 fun s' J => ⟨σ, _, J, q⟩
end Hs
namespace Hs
open PySem PySem.Spec PyProof.Rows L2
/-- what the written part says of an own error class over ValueError, of its __init__ and of what super() asks -/
structure SupC (P : Program) (K : PySem.W.Frag) (mg : Str → Option Value) (C c cc : Addr) (B newId initId : String) (bmB : List Value) : Prop where
  ox : OexG K C newId bmB
  code : ∃ (ccl : Value) (cdd : Option Addr) (vs : Array Value) (ccs : Array (Option Value)) (file : Str) (tf : Tok), K.lookup c = some ⟨ccl, cdd, .fields vs, ccs⟩ ∧ vs[2]? = some (.str file tf) ∧ ((P.main.file : Str) == file) = true
  cell : ∃ (cl : Value) (cld : Option Addr) (csl : Array (Option Value)), K.lookup cc = some ⟨cl, cld, .cell (some (.ref C)), csl⟩
  me : PySem.W.mroIn K C (.ref C) = some true
  sup : PySem.W.ks_superIn K C C "__init__" = some (some (.builtin initId))
  ve : PySem.W.subIn K (.ref C) (.type B) = some true
  op : PySem.W.nsIn K cStatics "thirdparty.any" = some none
  gs : mg "super" = none
  top : (P.main.scope.names.lookup ("super" : Str)).isSome = false
theorem sup_walk {X : Cx} {σ : L2.St} {H : Hp} {s : Shared} {C f c cc a : Addr} {fd : FuncData} {oc : Value} {od : Option Addr} {osl : Array (Option Value)} {ar : Arg} {body : List Stmt} {p0 p1 p2 p3 pos0 : Pos} {e : Expr} {ta : TA} {R : Hp → Prop} {pl : Sem Bool}
    {B newId initId : String} {bmB : List Value} (bx : BasX B newId initId bmB) (T : SupC X.prog X.K X.mg C c cc B newId initId bmB) (I : Inv X [] σ H s) (lk : X.K.lookup f = some ⟨oc, od, .func fd, osl⟩) (hp : (fd.params.posonlyargs ++ fd.params.args).head? = some ar)
    (hfu : X.env.func = some f) (hco : X.env.code = .ref c) (hce : X.env.cells.lookup ("__class__" : Str) = some cc) (hks : X.env.kindOf "super" = some .globalImplicit) (hkc : X.env.kindOf "__class__" = some .free) (hN0 : X.N[0]? = some ar.arg) (hl0 : X.env.kindOf ar.arg = some .local)
    (h0 : σ[0]? = some (some (.ref a))) (ea : H a = some (exo a C none)) (hPA : PA X [e] ta) (ht : ta σ H fun us H1 => us.length ≤ 1000 ∧ H1 a = some (exo a C none) ∧ R H1)
    (hst : starEach [e] X.env = [(false, eval e X.env)])
    (hi : interactive X.env = false := by rfl) (hsw : swapsWith (.Call (.Attribute (.Call (.Name "super" p0) [] [] p1) "__init__" p2) [e] [] p3) none pos0.line X.env = pure false := by rfl)
    (he : eval (.Call (.Attribute (.Call (.Name "super" p0) [] [] p1) "__init__" p2) [e] [] p3) X.env = (do
      let ov ← attributeBase (.Call (.Name "super" p0) [] [] p1) "__init__" X.env (eval (.Call (.Name "super" p0) [] [] p1) X.env)
      standAt p2.atName
      let (f, first) ← holding [ov] (getMethod ov "__init__" pl)
      callWith p3 f first (backTo p3 (starEach [e] X.env)) []) := by rfl) :
    _root_.PySem.wpAt (model X.prog X.w) X.A (.func body X.env) (exec (.Expr (.Call (.Attribute (.Call (.Name "super" p0) [] [] p1) "__init__" p2) [e] [] p3) pos0) X.env) (fun fl s' => fl = .next ∧ ∃ H1, Inv X [] σ H1 s' ∧ R H1) X.xe s := by
  obtain ⟨ccl, cdd, vsc, ccs, file, tf, hcode, hv2, hfile⟩ := T.code
  obtain ⟨cl0, cld0, csl0, hcell⟩ := T.cell
  obtain ⟨nm, q, Nn, bs, bm, sn, sub, ab, col, dd, k0, k1, k2, k3, k5, hC, hbm⟩ := T.ox.cls
  have hcl : PySem.W.clsIn X.K C = some { name := nm, bases := bs, mro := .ref C :: bm, ns := Nn, qualname := q, hasDict := true, slotNames := sn, subclasses := sub, abstract := ab, collection := col, hasDel := false } := by unfold PySem.W.clsIn; rw [hC] <;> rfl
  have KX := I.kIn
  obtain ⟨t1, ho⟩ := exo_at I.hok ea
  have hkind := I.ok.kind
  obtain ⟨mb, hb1, hb2⟩ := I.mod.blt
  obtain ⟨m, hns, hloc⟩ := id I.loc
  obtain ⟨u0, ru, lk0⟩ := hloc 0 ar.arg (.ref a) hN0 h0 (.inl hl0)
  obtain rfl : u0 = Value.ref a := ru
  have hself : m ar.arg = some (.ref a) := by
    rcases lk0 with ⟨_, z⟩ | ⟨z | z, _⟩
    · exact z
    · rw [hl0] at z
      cases z
    · rw [hl0] at z
      cases z
  have hDo := KX _ _ hC
  obtain ⟨hp0, g0, d0, tk0, os0⟩ := s
  refine ks_wpAt_Expr_any (ks_wpAt_MethodCall (pl := pl) ?_ he) hi hsw
  refine ks_wpAt_super_base (env := X.env) hks hkc (by decide) hfu (KX _ _ lk) rfl hp hco (KX _ _ hcode) rfl hv2 hfile T.top ?_
  refine PySem.W.ks_loadName_global hkind hks (Calls.loadGlobal_builtin (env := X.env) (by rw [I.ok.glob]; exact I.mod.glob.keeps I.bk) T.gs (by rw [I.ok.blt]; exact hb1.keeps I.bk) ((hb2 "super" (by decide)).trans (by decide +kernel)) ⟨rfl, ?_⟩)
  refine wpAny_loadName_free hkind hkc hce ⟨_, KX _ _ hcell, rfl⟩ ?_
  refine wpAny_loadName_local hkind hl0 hns hself ?_
  refine ks_wpAny_isType_cls hDo rfl ⟨rfl, ?_⟩
  refine ks_wpAny_call_super hDo rfl ho rfl (fun _ z => by cases z) (PySem.W.looks_mroIn KX T.me) fun h1 e1 kp1 => ?_
  have I1 : Inv X [] σ H ⟨h1, g0, d0, tk0, os0⟩ := I.kept (t' := tk0) kp1
  have KX1 := I1.kIn
  obtain ⟨t2, ho1⟩ := exo_at I1.hok ea
  have hI : PySem.W.Looks (model X.prog X.w) h1 (isInstance (.ref a) (.type B)) true := (show PySem.W.InstAt h1 a _ C none from ⟨ho1, rfl, rfl, trivial⟩).type.andThen (PySem.W.looks_subIn KX1 T.ve)
  have hmro : PySem.W.Looks (model X.prog X.w) h1 (mroOf (.ref C)) (.ref C :: bm) := (PySem.W.looks_clsIn KX1 hcl).andThen .now
  have hsupr := T.sup
  unfold PySem.W.ks_superIn at hsupr
  rw [hcl] at hsupr
  have hxC : a ≠ C := fun z => by
    have w1 := KX1 _ _ hC
    rw [← z, ho1] at w1
    cases w1
  refine PySem.W.kxs_getMethod bx.kx e1 (PySem.W.looks_opaque KX1 T.op) hmro rfl KX1 hsupr hI hxC (by decide) ?_
  have kp2 : ∀ b o, h1.get? b = some o → (h1.push (PySem.W.kxs_mw initId a)).get? b = some o := fun b o z => Heap.get?_push_of_some _ z
  have I2 : Inv X [] σ H ⟨h1.push (PySem.W.kxs_mw initId a), g0, d0, tk0 + 1, os0⟩ := I1.kept (t' := tk0 + 1) kp2
  have hu2 : (h1.push (PySem.W.kxs_mw initId a)).get? h1.objs.size = some (PySem.W.kxs_mw initId a) := Heap.get?_push_at rfl rfl
  have nu : H h1.objs.size = none := I1.hok.fresh (Nat.le_refl _)
  have I3 : Inv X [(h1.objs.size, PySem.W.kxs_mw initId a)] σ H ⟨h1.push (PySem.W.kxs_mw initId a), g0, d0, tk0 + 1, os0⟩ := I2.pins_of fun p hp => by
    rcases List.mem_cons.mp hp with z | z
    · subst z
      exact ⟨hu2, nu, fun z => Nat.lt_irrefl _ (z ▸ I1.lt), I1.nofs (Nat.le_refl _), fun v z => by cases z⟩
    · cases z
  show wpAny _ _ (callWith p3 (.ref h1.objs.size) [] (backTo p3 (starEach [e] X.env)) []) _ _ _
  have run := hPA.run p3 _ _ σ H _ I3 ht
  rw [hst] at run ⊢
  refine PySem.W.kxs_callWith (i := initId) (x := a) rfl (Calls.evalArgs_plain (wpAny_mono run (fun us s2 z => ?_) fun _ _ z => z))
  obtain ⟨vs2, H2, I4, r4, hz, ea2, hR⟩ := z
  have hu4 := (I4.pin (h1.objs.size, PySem.W.kxs_mw initId a) (List.mem_append_right _ (List.mem_cons_self ..))).1
  obtain ⟨t4, ho4⟩ := exo_at I4.hok ea2
  have hlen : us.length ≤ sizeLine := by
    rw [← Paired.length r4, sizeLine_eq]
    omega
  obtain ⟨hp4, g4, d4, tk4, os4⟩ := s2
  refine ⟨hu4, call_mw bx.eb (I4.kIn _ _ hC) ho4 hu4 hlen fun h' t5 k5 hx5 => ⟨rfl, H2, ?_, hR⟩⟩
  have J := I4.write (t' := tk4) (x := a) (e := a) (o := exo a C none) (by rw [ea2]; exact True.intro) (.inl rfl) k5 ⟨_, hx5⟩ (exo_ok hx5)
  have eu : upd H2 a (exo a C none) = H2 := by
    funext b
    by_cases hb : b = a
    · rw [hb, upd_same, ea2]
    · rw [upd_ne hb]
  rw [eu] at J
  exact J.pins_of fun p hp => by cases hp
theorem sup_ok {P : Program} {w : World} {K : PySem.W.Frag} {mg : Str → Option Value} {base : Heap} {k : Nat} {N ps : List Str} {C f c cc : Addr} {name qual : Str} {params : Arguments} {p0 p1 p2 p3 pos0 : Pos} {e : Expr} {rest : List Stmt} {scope : Scope}
    {dV kV doc pm ct oc : Value} {an od : Option Addr} {osl : Array (Option Value)} {ar : Arg} {sp : Sp} {pl : Addr → Sem Bool} {B newId initId : String} {bmB : List Value} (bx : BasX B newId initId bmB) (T : SupC P K mg C c cc B newId initId bmB)
    (lk : K.lookup f = some ⟨oc, od, .func (PySem.W.fnX name qual params (.Expr (.Call (.Attribute (.Call (.Name "super" p0) [] [] p1) "__init__" p2) [e] [] p3) pos0 :: rest) scope [("__class__", cc)] dV kV doc pm an (.ref c) ct), osl⟩)
    (hcd : PySem.W.codeIn K (.ref c) qual = true) (S : NdefX.NScope N ps ["__class__"] scope) (hks : scope.names.lookup ("super" : Str) = some .globalImplicit)
    (hp : (params.posonlyargs ++ params.args).head? = some ar) (hN0 : N[0]? = some ar.arg) (hl0 : scope.names.lookup ar.arg = some .local) (len : ∀ vs H Q E, sp vs H Q E → vs.length = ps.length)
    (hbody : ∀ (A : Around) (outer : List Env) (s : Shared) (H : Hp) (vs : List V) (Q : VK) (E : XK), Room k (A.deeper (NdefX.envF ⟨name, qual, params, [], scope, [("__class__", cc)], c⟩ f s.heap.objs.size)) → sp vs H Q E →
      ∃ (a : Addr) (ta : TA) (t : TS), (NdefX.startF N vs [none])[0]? = some (some (.ref a)) ∧ H a = some (exo a C none) ∧ PA (NdefX.ncx CX0 P w K mg base N ⟨name, qual, params, [], scope, [("__class__", cc)], c⟩ f A outer s H E).nox [e] ta ∧
        PSs (NdefX.ncx CX0 P w K mg base N ⟨name, qual, params, [], scope, [("__class__", cc)], c⟩ f A outer s H E).nox rest t ∧
        ta (NdefX.startF N vs [none]) H fun us H1 => us.length ≤ 1000 ∧ H1 a = some (exo a C none) ∧ t { nx := fun _ H' => Q .non H', rt := Q } (NdefX.startF N vs [none]) H1)
    (hst : ∀ env : Env, starEach [e] env = [(false, eval e env)]) (hi : ∀ L : Addr, interactive (NdefX.envF ⟨name, qual, params, [], scope, [("__class__", cc)], c⟩ f L) = false)
    (hsw : ∀ L : Addr, swapsWith (.Call (.Attribute (.Call (.Name "super" p0) [] [] p1) "__init__" p2) [e] [] p3) none pos0.line (NdefX.envF ⟨name, qual, params, [], scope, [("__class__", cc)], c⟩ f L) = pure false)
    (he : ∀ L : Addr, eval (.Call (.Attribute (.Call (.Name "super" p0) [] [] p1) "__init__" p2) [e] [] p3) (NdefX.envF ⟨name, qual, params, [], scope, [("__class__", cc)], c⟩ f L) = (do
      let ov ← attributeBase (.Call (.Name "super" p0) [] [] p1) "__init__" (NdefX.envF ⟨name, qual, params, [], scope, [("__class__", cc)], c⟩ f L) (eval (.Call (.Name "super" p0) [] [] p1) (NdefX.envF ⟨name, qual, params, [], scope, [("__class__", cc)], c⟩ f L))
      standAt p2.atName
      let (ff, first) ← holding [ov] (getMethod ov "__init__" (pl L))
      callWith p3 ff first (backTo p3 (starEach [e] (NdefX.envF ⟨name, qual, params, [], scope, [("__class__", cc)], c⟩ f L))) [])) :
    FnOk P w K mg base CX0 (k + 1) f (PySem.W.fnX name qual params (.Expr (.Call (.Attribute (.Call (.Name "super" p0) [] [] p1) "__init__" p2) [e] [] p3) pos0 :: rest) scope [("__class__", cc)] dV kV doc pm an (.ref c) ct) ps sp := by
  refine ⟨len, fun A outer s H args us vs Q E hr e0 hb r hsp => ?_⟩
  have hl := len _ _ _ _ hsp
  have bk : ∀ b o, base.get? b = some o → s.heap.get? b = some o := fun b o e => (e0.bs b o e).1
  have KX : K.In s.heap := e0.mod.kin.keeps bk
  have lim : s.heap.NoLimit := e0.mod.nolimit.keeps bk
  obtain ⟨cl0, cld0, csl0, hcell⟩ := T.cell
  have CA : NdefX.CellsAt [(("__class__" : Str), cc)] ["__class__"] [none] s.heap H := by
    have bc := e0.mod.kin cc _ hcell
    have z := e0.bs cc _ bc
    have only : ∀ y c', ([(("__class__" : Str), cc)] : List (Str × Addr)).lookup y = some c' → y = "__class__" ∧ c' = cc := fun y c' h => by
      have m := PySem.mem_of_lookup h
      rcases List.mem_cons.mp m with q | q
      · injection q with q1 q2
        exact ⟨q1, q2⟩
      · cases q
    refine ⟨rfl, fun y c' h => ?_, fun x y c' h1 h2 => (only x c' h1).1.trans (only y c' h2).1.symm, fun i y h => ?_⟩
    · obtain ⟨_, rfl⟩ := only y c' h
      exact ⟨z.2, _, _, z.1, rfl⟩
    · cases i with
      | zero =>
        have e : "__class__" = y := Option.some.inj h
        subst e
        exact ⟨cc, by simp [List.lookup], fun v hv => by cases hv⟩
      | succ i => cases h
  obtain ⟨a, ta, t, h0, hHa, hPA, hPS, ht⟩ := hbody A outer s H vs Q E (hr.deeper _) hsp
  refine ks_codeAny_call_defAt (binds := ps.zip us) hr.depth (KX _ _ lk) rfl lim (PySem.W.codeRec_of KX hcd) rfl hb S.nocell (fun ⟨n, _⟩ hy => S.par n (List.of_mem_zip hy).1) (fun h₁ hns kp => ?_) S.co S.gen S.kind
  have I : Inv (NdefX.ncx CX0 P w K mg base N ⟨name, qual, params, [], scope, [("__class__", cc)], c⟩ f A outer s H E).nox [] (NdefX.startF N vs [none]) H { s with heap := h₁, toks := s.toks + (ps.zip us).length } :=
    (NdefX.inv_startN (F := ⟨name, qual, params, [], scope, [("__class__", cc)], c⟩) S hr.hd e0 hl r CA hns kp).wish _
  refine ks_wpAt_execs_cons (ks_wpAt_mono (sup_walk (X := (NdefX.ncx CX0 P w K mg base N ⟨name, qual, params, [], scope, [("__class__", cc)], c⟩ f A outer s H E).nox) (R := fun H1 => t { nx := fun _ H' => Q .non H', rt := Q } (NdefX.startF N vs [none]) H1)
    bx T I lk hp rfl rfl rfl hks (S.frk _ (by simp)) hN0 hl0 h0 hHa hPA ht (hst _) (hi _) (hsw _) (he _)) (fun fl s' z => ?_) fun _ _ z => z.elim)
  obtain ⟨rfl, H1, J, hR⟩ := z
  refine wpAt_of_wpAny (wpAny_mono (hPS.run [] s' _ H1 _ J hR) (fun fl s2 z => ?_) fun _ _ z => z.elim)
  have fin : ∀ {σ' : L2.St} {H' : Hp} {v : V} {u : Value}, Inv (NdefX.ncx CX0 P w K mg base N ⟨name, qual, params, [], scope, [("__class__", cc)], c⟩ f A outer s H E).nox [] σ' H' s2 → RelV v u → Q v H' → CE outer P w H s Q u s2 :=
    fun {σ' H' v u} J rv q => ⟨v, H', J.os, J.bare, J.base, J.hok, rv, q⟩
  cases fl with
  | ret u =>
    obtain ⟨v, σ', H', J, rv, q⟩ := z
    exact fin J rv q
  | next =>
    obtain ⟨σ', H', J, q⟩ := z
    exact fin (v := V.non) (u := Value.none) J rfl q
  | brk =>
    obtain ⟨_, _, _, q⟩ := z
    exact False.elim q
  | cont =>
    obtain ⟨_, _, _, q⟩ := z
    exact False.elim q
end Hs
namespace Hs
open PySem PySem.Spec PyProof.Rows L2 Evl
/-- C(), C's own __init__ keeping sp -/
theorem pmk_oex0 {X : Cx} {CX : CXT} {x : Str} {C fI : Addr} {k : Nat} {fd : FuncData} {ps : List Str} {sp : Sp} {ds : List Value} {dvs : List V} {p pos : Pos} {B newId initId : String} {bmB : List Value} (bx : BasX B newId initId bmB) (T : OexG X.K C newId bmB) (iC : PySem.W.findIn X.K (.ref C) "__init__" = some (some (.ref fI))) (tI : PySem.W.typeIn X.K (.ref fI) = some (.type "function"))
    (F1 : FnOk X.prog X.w X.K X.mg X.base CX k fI fd ps sp) (hr : Room (k + 1) X.A) (hb : Binds X.K fd ps ds) (hd : Vals dvs ds) (hx : Passes CX X (fun _ _ _ => False)) (hg : Gl X x) (hm : X.mg x = some (.ref C))
    (hdb : (x == ("__debug__" : Str)) = false := by decide) : PMk X (.Call (.Name x p) [] [] pos) (tMkO C sp dvs tNil) := by
  intro pins s σ H Q I h
  obtain ⟨nm, q, N, bs, bm, sn, sub, ab, col, dd, k0, k1, k2, k3, k5, hC, hbm⟩ := T.cls
  refine wpAny_Call_Name_kw (ld_glob I hg hm ?_ hdb)
  refine PySem.W.callWith_K0 I.kIn T.kC ?_
  show wpAny _ _ (call (.ref C) []) _ _ _
  obtain ⟨hp, g, dr, tk, os⟩ := s
  have hsz : hp.objs.size ≤ hp.objs.size + 1 := Nat.le_succ _
  have hn : H (hp.objs.size + 1) = none := I.hok.fresh hsz
  have hq := h.2 (hp.objs.size + 1) hn
  have kk : ∀ b o, hp.get? b = some o → ((hp.push (PySem.W.kdv_tup [])).push (PySem.HandSPX.excO C hp.objs.size)).get? b = some o := fun b o e => Heap.get?_push_of_some _ (Heap.get?_push_of_some _ e)
  have hget : ((hp.push (PySem.W.kdv_tup [])).push (PySem.HandSPX.excO C hp.objs.size)).get? (hp.objs.size + 1) = some (PySem.HandSPX.excO C hp.objs.size) := by heap_get
  have I2 : Inv X pins σ (upd H (hp.objs.size + 1) (exo (hp.objs.size + 1) C none)) ⟨(hp.push (PySem.W.kdv_tup [])).push (PySem.HandSPX.excO C hp.objs.size), g, dr, tk, os⟩ :=
    I.laid (t' := tk) (a := hp.objs.size + 1) (o := exo (hp.objs.size + 1) C none) (h' := (hp.push (PySem.W.kdv_tup [])).push (PySem.HandSPX.excO C hp.objs.size)) kk hsz (exo_ok hget)
  have r2 : Vals (V.ref (hp.objs.size + 1) :: ([] ++ dvs)) ([Value.ref (hp.objs.size + 1)] ++ ds) := .cons rfl hd
  have hl : (Value.ref (hp.objs.size + 1) :: [] ++ ds).length = ps.length := by
    have e := r2.length
    rw [F1.len _ _ _ _ hq] at e
    exact e.symm
  refine wpAny_call (PySem.HandSPX.call_own bx.eb (fun Y => PySem.W.excTail_contains Y bm hbm) (I.kIn _ _ hC) (PySem.W.looks_findIn I.kIn iC) (fun self => PySem.W.bind_fn I.kIn self tI) (Nat.zero_le _)
    (codeAny_mono (F1.run _ X.stack _ _ ⟨[Value.ref (hp.objs.size + 1)], []⟩ ([Value.ref (hp.objs.size + 1)] ++ ds) _ _ (fun _ _ _ => False) (hr.make C [] []) (I2.env0.make C [] []) (hb _ [Value.ref (hp.objs.size + 1)] I2.kIn hl) r2 hq) fun r s' hq' => ?_))
  cases r with
  | error er => exact hx pins σ _ _ er s' I2 hq'
  | ok fl =>
    cases fl with
    | ret u =>
      obtain ⟨v, H2, os2, bare2, un2, hok2, rv, ev, d, fs, ea, ed, hd1, q2⟩ := hq'
      subst ev
      obtain ⟨h2, g2, d2, t2, os'⟩ := s'
      exact ⟨rv, mk_end (raises_own T.exC T.tyC) I hsz kk un2 hok2 os2 bare2 ea ed hd1 q2⟩
    | next => exact False.elim hq'
    | brk => exact False.elim hq'
    | cont => exact False.elim hq'
/-- __init__ of an error with its word alone -/
def spErr (C : Addr) (wd : Str) : Sp := fun vs H Q _ => ∃ (a : Addr) (y : V), vs = [.ref a, y] ∧ H a = some (exo a C none) ∧ ∀ dx, H dx = none → dx ≠ a → Q .non (upd (upd H dx (exd dx [("word", .str wd)])) a (exo a C (some dx)))
/-- raise C(): the word in the error's own dict -/
theorem mk_err {C : Addr} {wd : Str} {y : V} {σ : L2.St} {H : Hp} {Q : XK} (h : ∀ d H', Ex H H' → H d = none → H' d = some (.xd [("word", .str wd)]) → Q (.ref C) (some d) H') : tMkO C (spErr C wd) [y] tNil σ H Q := by
  refine ⟨Nat.zero_le _, fun a na => ⟨a, y, rfl, upd_same, fun dx nd ne => ⟨rfl, dx, [("word", .str wd)], upd_same, ?_, ?_, ?_⟩⟩⟩
  · rw [upd_ne ne, upd_same]
  · rw [upd_ne ne] at nd
    exact nd
  · have nd' : H dx = none := by
      rw [upd_ne ne] at nd
      exact nd
    refine h dx _ (fun b o e => ?_) nd' upd_same
    have nb : b ≠ dx := ne_of_none e nd'
    have na' : b ≠ a := ne_of_none e na
    rw [upd_ne nb, del_ne na', upd_ne na', upd_ne nb, upd_ne na']
    exact e
end Hs
namespace Hs
open PySem PySem.Spec PyProof.Rows L2 Evl
/-- an own error class x at C with the word wd alone, as it stands -/
structure ErrF (P : Program) (w : World) (K : PySem.W.Frag) (mg : Str → Option Value) (base : Heap) (k : Nat) (x : Str) (C : Addr) (wd : Str) : Prop where
  ox : ∃ (B newId initId : String) (bmB : List Value), BasX B newId initId bmB ∧ OexG K C newId bmB
  gx : mg x = some (.ref C)
  ini : ∃ (fI : Addr) (fd : FuncData) (ps : List Str) (y : V) (d : Value), PySem.W.findIn K (.ref C) "__init__" = some (some (.ref fI)) ∧ PySem.W.typeIn K (.ref fI) = some (.type "function") ∧ FnOk P w K mg base CX0 k fI fd ps (spErr C wd) ∧ RelV y d ∧ Binds K fd ps [d]
theorem pmk_err {X : Cx} {k j : Nat} {x : Str} {C : Addr} {wd : Str} {p pos : Pos} (Er : ErrF X.prog X.w X.K X.mg X.base k x C wd) (hr : Room j X.A) (hk : k + 1 ≤ j) (hg : Gl X x) (hdb : (x == ("__debug__" : Str)) = false := by decide) :
    PMk X (.Call (.Name x p) [] [] pos) (fun _ H Q => ∀ d H', Ex H H' → H d = none → H' d = some (.xd [("word", .str wd)]) → Q (.ref C) (some d) H') := by
  obtain ⟨fI, fd, ps, y, d, h1, h2, h3, h4, h5⟩ := Er.ini
  obtain ⟨B, newId, initId, bmB, bx, ox⟩ := Er.ox
  intro pins s σ H Q I h
  exact pmk_oex0 bx ox h1 h2 h3 (hr.mono hk) h5 (.cons h4 .nil) (fun _ _ _ _ _ _ _ z => z.elim) hg Er.gx hdb pins s σ H Q I (mk_err h)
/-- the def st of a class's body, closed over __class__ at cc, its code object at c -/
def InitAt (K : PySem.W.Frag) (qual : Str) (st : Stmt) (f c cc : Addr) (dvs : List V) (fd : FuncData) : Prop :=
  ∃ (oc : Value) (od : Option Addr) (dV kV doc pm : Value) (an : Option Addr) (ct : Value) (osl : Array (Option Value)), fd = PySem.W.fnX "__init__" qual (defArgs st) (defBody st) (defScope st) [("__class__", cc)] dV kV doc pm an (.ref c) ct ∧
    K.lookup f = some ⟨oc, od, .func fd, osl⟩ ∧ PySem.W.codeIn K (.ref c) qual = true ∧ DflV K dV dvs
/-- __init__(self, why=..): super().__init__(why); self.word = '..' -/
theorem err_ok {P : Program} {w : World} {K : PySem.W.Frag} {mg : Str → Option Value} {base : Heap} {C f c cc : Addr} {fd : FuncData} {qual wd : Str} {st : Stmt} {y : V} {p0 p1 p2 p3 p4 pos0 p5 p6 p7 p8 : Pos} {kd : Nat} {ar : Arg} {B newId initId : String} {bmB : List Value} (bx : BasX B newId initId bmB) (T : SupC P K mg C c cc B newId initId bmB) (I0 : InitAt K qual st f c cc [y] fd)
    (hno : PySem.W.findIn K (.ref C) "word" = some none)
    (hbd : defBody st = [.Expr (.Call (.Attribute (.Call (.Name "super" p0) [] [] p1) "__init__" p2) [.Name "why" p4] [] p3) pos0, .Assign [.Attribute (.Name "self" p5) "word" p6] (.Constant (.str wd) kd p7) p8])
    (S : NdefX.NScope ["self", "why", "__class__"] ["self", "why"] ["__class__"] (defScope st)) (hks : (defScope st).names.lookup ("super" : Str) = some .globalImplicit)
    (hp : ((defArgs st).posonlyargs ++ (defArgs st).args).head? = some ar) (har : ar.arg = "self") (hl0 : (defScope st).names.lookup ("self" : Str) = some .local) (hl1 : (defScope st).names.lookup ("why" : Str) = some .local) {pl : Addr → Sem Bool}
    (hi : ∀ L : Addr, interactive (NdefX.envF ⟨"__init__", qual, defArgs st, [], defScope st, [("__class__", cc)], c⟩ f L) = false)
    (hsw : ∀ L : Addr, swapsWith (.Call (.Attribute (.Call (.Name "super" p0) [] [] p1) "__init__" p2) [.Name "why" p4] [] p3) none pos0.line (NdefX.envF ⟨"__init__", qual, defArgs st, [], defScope st, [("__class__", cc)], c⟩ f L) = pure false)
    (hs2 : ∀ L : Addr, swapsWith (.Constant (.str wd) kd p7) (some (.Attribute (.Name "self" p5) "word" p6)) p8.line (NdefX.envF ⟨"__init__", qual, defArgs st, [], defScope st, [("__class__", cc)], c⟩ f L) = pure false)
    (he : ∀ L : Addr, eval (.Call (.Attribute (.Call (.Name "super" p0) [] [] p1) "__init__" p2) [.Name "why" p4] [] p3) (NdefX.envF ⟨"__init__", qual, defArgs st, [], defScope st, [("__class__", cc)], c⟩ f L) = (do
      let ov ← attributeBase (.Call (.Name "super" p0) [] [] p1) "__init__" (NdefX.envF ⟨"__init__", qual, defArgs st, [], defScope st, [("__class__", cc)], c⟩ f L) (eval (.Call (.Name "super" p0) [] [] p1) (NdefX.envF ⟨"__init__", qual, defArgs st, [], defScope st, [("__class__", cc)], c⟩ f L))
      standAt p2.atName
      let (ff, first) ← holding [ov] (getMethod ov "__init__" (pl L))
      callWith p3 ff first (backTo p3 (starEach [.Name "why" p4] (NdefX.envF ⟨"__init__", qual, defArgs st, [], defScope st, [("__class__", cc)], c⟩ f L))) []))
    (hst : ∀ env : Env, starEach [.Name "why" p4] env = [(false, eval (.Name "why" p4) env)]) :
    FnOk P w K mg base CX0 1 f fd ["self", "why"] (spErr C wd) := by
  obtain ⟨oc, od, dV, kV, doc, pm, an, ct, osl, rfl, lk, hcd, _⟩ := I0
  rw [hbd] at lk ⊢
  refine sup_ok (k := 0) (N := ["self", "why", "__class__"]) bx T lk hcd S hks hp (by rw [har] <;> rfl) (by rw [har]; exact hl0) (fun vs H Q E h => ?_) (fun A outer s H vs Q E hr h => ?_) hst hi hsw he
  · obtain ⟨a, y, rfl, _⟩ := h
    rfl
  · obtain ⟨a, y, rfl, ha, k⟩ := h
    refine ⟨a, tCons (tVar 1) tNil, tPut K newId bmB "word" (tVar 0) (tC (.str wd)), rfl, ha, pa_cons (pv 1 rfl (.inl hl1)) pa_nil (hst _), pss_one (ps_put bx (pv 0 rfl (.inl hl0)) pe_str (hs2 _)), ?_⟩
    exact ⟨y, rfl, Nat.succ_le_succ (Nat.zero_le _), ha, .ref a, rfl, a, C, rfl, T.ox, hno, .inl ⟨ha, fun dx n ne => k dx n ne⟩⟩
end Hs
namespace Hs
open PySem PySem.Spec PyProof.Rows L2 Evl
/-! ### try with several clauses, each with a name -/
theorem flyZ_kept {base : Heap} {l : List Env} {e : Addr} {Z : Obj → Prop} {h h' : Heap} (k : ∀ b o, h.get? b = some o → h'.get? b = some o) (f : HandSPX.FlyingZ base l e Z h) : HandSPX.FlyingZ base l e Z h' := by
  obtain ⟨f1, f2, f3, oe, vs, T, oT, ts, h1, h2, h3, h4, h5, h6, h7, h8, h9⟩ := f
  exact ⟨fun b o z => k b o (f1 b o z), f2, f3.of_keeps fun b o z _ => ⟨o, k b o z, rfl⟩, oe, vs, T, oT, ts, k _ _ h1, h2, h3, h4, h5, h6, k _ _ h7, h8, h9⟩
/-- the classes that a clause names: r tells of a class whether it is one of theirs -/
def TestOk (X : Cx) (t : Expr) (r : Value → Option Bool) : Prop :=
  ∀ (a : Addr) (oe : Obj) (pn : List (Addr × Obj)) (σ : L2.St) (H : Hp) (s : Shared), Inv (X.suite a ((a, oe) :: pn)) [] σ H s → ∀ (cls : Value) (b : Bool), r cls = some b → PySem.W.Looks (model X.prog X.w) s.heap (typeOf (.ref a)) cls →
    ∀ (Q : Bool → Shared → Prop) (E : Value → Shared → Prop), (∀ h', (∀ b o, s.heap.get? b = some o → h'.get? b = some o) → Q b { s with heap := h' }) →
      wpAny (model X.prog X.w) (X.A.mark (some (.ref a))) (eval t X.env) (fun c s₁ => wpAny (model X.prog X.w) (X.A.mark (some (.ref a))) (excMatches (.ref a) c) Q E s₁) E s
theorem ld_cls {X : Cx} {x : Str} {c : Value} {np : Pos} (hc : Names X x c) {a : Addr} {oe : Obj} {pn : List (Addr × Obj)} {σ : L2.St} {H : Hp} {s : Shared} (I : Inv (X.suite a ((a, oe) :: pn)) [] σ H s) {Q : Value → Shared → Prop} {E : Value → Shared → Prop} (q : Q c s) :
    wpAny (model X.prog X.w) (X.A.mark (some (.ref a))) (eval (.Name x np) X.env) Q E s := by
  obtain ⟨hg, hdbg, hm | ⟨hm, hv, hnn⟩⟩ := hc
  · exact ld_glob (X := X.suite a ((a, oe) :: pn)) I hg hm q hdbg
  · exact ld_blt (X := X.suite a ((a, oe) :: pn)) I hg hm hv q hnn hdbg
theorem test_one {X : Cx} {x : Str} {c : Value} {np : Pos} (hc : Names X x c) : TestOk X (.Name x np) (fun cls => PySem.W.exmOne X.K cls c) := by
  intro a oe pn σ H s I cls b hb LT Q E q
  exact ld_cls hc I ((PySem.W.exm_one (M := model X.prog X.w) I.kIn LT hb).here (q s.heap fun _ _ z => z))
theorem test_two {X : Cx} {x y : Str} {c1 c2 : Value} {np nq pos : Pos} {k : Nat} (hc : Names X x c1) (hd : Names X y c2)
    (hs1 : starEach [.Name x np, .Name y nq] X.env = [(false, eval (.Name x np) X.env), (false, eval (.Name y nq) X.env)] := by rfl) : TestOk X (.Tuple [.Name x np, .Name y nq] k pos) (fun cls => PySem.W.exmAny X.K cls [c1, c2]) := by
  intro a oe pn σ H s I cls b hb LT Q E q
  refine wpAny_Tuple_spliced ?_
  rw [hs1]
  show wpAny _ _ (spliced ((false, eval (.Name x np) X.env) :: (false, eval (.Name y nq) X.env) :: backTo pos [])) _ _ s
  refine Calls.spliced_cons (ld_cls hc I (Calls.spliced_cons (ld_cls hd I (Calls.spliced_nil ?_))))
  refine ⟨by show 2 ≤ sizeLine; decide, ?_⟩
  have kp : ∀ b o, s.heap.get? b = some o → (s.heap.push { cls := .type "tuple", data := .seq [c1, c2].toArray }).get? b = some o := fun b o z => Heap.get?_push_of_some _ z
  exact (PySem.W.exm_tup2 (M := model X.prog X.w) (I.kIn.keeps kp) (LT.keeps kp) (Heap.get?_push_size _ rfl) hb).here (q _ kp)
theorem test_three {X : Cx} {x y z : Str} {c1 c2 c3 : Value} {np nq nr pos : Pos} {k : Nat} (hc : Names X x c1) (hd : Names X y c2) (he : Names X z c3)
    (hs1 : starEach [.Name x np, .Name y nq, .Name z nr] X.env = [(false, eval (.Name x np) X.env), (false, eval (.Name y nq) X.env), (false, eval (.Name z nr) X.env)] := by rfl) : TestOk X (.Tuple [.Name x np, .Name y nq, .Name z nr] k pos) (fun cls => PySem.W.exmAny X.K cls [c1, c2, c3]) := by
  intro a oe pn σ H s I cls b hb LT Q E q
  refine wpAny_Tuple_spliced ?_
  rw [hs1]
  show wpAny _ _ (spliced ((false, eval (.Name x np) X.env) :: (false, eval (.Name y nq) X.env) :: (false, eval (.Name z nr) X.env) :: backTo pos [])) _ _ s
  refine Calls.spliced_cons (ld_cls hc I (Calls.spliced_cons (ld_cls hd I (Calls.spliced_cons (ld_cls he I (Calls.spliced_nil ?_))))))
  refine ⟨by show 3 ≤ sizeLine; decide, ?_⟩
  have kp : ∀ b o, s.heap.get? b = some o → (s.heap.push { cls := .type "tuple", data := .seq [c1, c2, c3].toArray }).get? b = some o := fun b o z => Heap.get?_push_of_some _ z
  exact (PySem.W.exm_tup3 (M := model X.prog X.w) (I.kIn.keeps kp) (LT.keeps kp) (Heap.get?_push_size _ rfl) hb).here (q _ kp)
end Hs
namespace Hs
open PySem PySem.Spec PyProof.Rows L2 Evl
/-- what the clauses wish of an exception of the body, one after the other; slot i is the clauses' name -/
def wManyA (i m : Nat) (Wout : WX) (D : Ends) : List ((Value → Option Bool) × (Addr → Value → Option Addr → TS)) → WX
  | [] => Wout
  | (r, ts) :: l => fun cls d σ H => ∃ b, r cls = some b ∧ (b = true → σ.length = m → ∀ a, H a = none → ts a cls d { nx := fun σ' H' => D.nx (σ'.set i none) H', rt := D.rt, bk := fun σ' H' => D.bk (σ'.set i none) H', ct := fun σ' H' => D.ct (σ'.set i none) H' } (σ.set i (some (.ref a))) H) ∧
      (b = false → wManyA i m Wout D l cls d σ H)
inductive HdsA (X : Cx) (n : Str) : List ExceptHandler → List ((Value → Option Bool) × (Addr → Value → Option Addr → TS)) → Prop
  | nil : HdsA X n [] []
  | cons {t : Expr} {r : Value → Option Bool} {ts : Addr → Value → Option Addr → TS} {b₀ : Stmt} {suite : List Stmt} {pos' : Pos} {hds : List ExceptHandler} {l : List ((Value → Option Bool) × (Addr → Value → Option Addr → TS))} (hc : TestOk X t r)
      (hsu : ∀ (a : Addr) (oe : Obj) (cls : Value) (d : Option Addr) (pn : List (Addr × Obj)), Zc cls d oe → (∃ vs, oe.data = .fields vs) → PSs (X.suite a ((a, oe) :: pn)) (b₀ :: suite) (ts a cls d)) (rest : HdsA X n hds l) :
      HdsA X n (.ExceptHandler (some t) (some n) (b₀ :: suite) pos' :: hds) ((r, ts) :: l)
theorem ps_try_manyA {X : Cx} {n : Str} {i : Nat} {body : List Stmt} {h₀ : ExceptHandler} {hds : List ExceptHandler} {l : List ((Value → Option Bool) × (Addr → Value → Option Addr → TS))} {pos : Pos} {tb : WX → TS} {Wout : WX}
    (hs : X.stack = X.env :: X.outer) (hf : X.env.frame = some X.env.locals) (hN : X.N.Nodup) (hi : X.N[i]? = some n) (hln : X.env.kindOf n = some .local) (tk : Takes X Wout)
    (hb : ∀ (W : WX) (pn : List (Addr × Obj)) (xe : Value → Shared → Prop), Takes (X.tr pn xe) W → PassesOwn (model X.prog X.w) X.A X.env xe → PSs (X.tr pn xe) body (tb W))
    (hh : HdsA X n (h₀ :: hds) l) : PS X (.Try body (h₀ :: hds) [] [] pos) (fun D σ H => tb (wManyA i X.N.length Wout D l) D σ H) := by
  refine ⟨fun pins s σ H D I h => ?_⟩
  have ok := I.ok
  have hfr : X.A.frames = some (X.env :: X.outer) := by rw [ok.frames, hs]
  have hloc : Loc X.env.scope n := .inl hln
  refine wpAny_Try_except ?_
  refine wpAny_mono ((hb (wManyA i X.N.length Wout D l) (X.pn ++ pins) (fun e s₁ => wpAny (model X.prog X.w) X.A (noteFrame e X.env) (fun _ s₂ => wpAny (model X.prog X.w) X.A (setFlight e none) (fun _ s₃ =>
    wpAny (model X.prog X.w) X.A (handleBy e X.env (h₀ :: hds)) (SP X pins D) X.xe s₃) X.xe s₂) X.xe s₁) (fun u s' xx => ?_) PassesOwn.looking).run [] s σ H D (I.toTry _) h) (fun f s1 hsp => ?_) (fun e s1 he => he)
  · obtain ⟨a, B, sI, pins', σ', H', cls, d, rfl, J', nb, up, sky, na, os, ag, w⟩ := xx
    have J : Inv X pins σ' H' sI := J'.ofTry ok
    have sky' : Sky B (X.env :: X.outer) a (Zc cls d) X.env.locals s'.heap := by rw [← hs]; exact sky
    show wpAny (model X.prog X.w) X.A (noteFrame (.ref a) X.env) _ _ _
    refine Sky.land Zc.steady hfr hf sky' fun h3 fl3 up3 => ?_
    have notFr : ∀ {h : Heap} {o : Obj} {vs : Array Value}, h.FunFrames B (X.env :: X.outer) → h.get? a = some o → o.data = .fields vs → a ∉ frs (X.env :: X.outer) := fun {h o vs} ff e dd hm => by
      obtain ⟨_, o', e', hnf⟩ := ff.mem hm
      rw [e] at e'; cases e'
      exact hnf _ dd
    have go : ∀ {hds' : List ExceptHandler} {l' : List ((Value → Option Bool) × (Addr → Value → Option Addr → TS))}, HdsA X n hds' l' → wManyA i X.N.length Wout D l' cls d σ' H' → ∀ h3, HandSPX.FlyingZ B (X.env :: X.outer) a (Zc cls d) h3 → sI.heap.UpToSlots h3 →
        wpAny (model X.prog X.w) X.A (handleBy (.ref a) X.env hds') (SP X pins D) X.xe { s' with heap := h3 } := by
      intro hds' l' hk
      induction hk with
      | nil =>
        intro w h3 fl3 up3
        refine wpAny_handleBy_nil ?_
        obtain ⟨k1, k2, k3, oe, vs, T, oT, ts', he, hz, hd, h1, hr⟩ := id fl3
        unfold PySem.passOn
        refine wpAny_bind (wpAny_field he hd h1 ?_)
        rw [if_neg (show ¬ ((Value.ref T == Value.none) = true) from by simp)]
        have fin : wpAny (model X.prog X.w) X.A (setFlight (.ref a) X.env.frame) (fun _ s4 => wpAny (model X.prog X.w) X.A (throw (.ref a) : Sem Flow) (SP X pins D) X.xe s4) X.xe { s' with heap := h3 } := by
          rw [hf]
          refine HandSPX.setFlight_upZ fl3 fun h4 hh4 up4 => wpAny_throw (tk _ _ ?_)
          exact ⟨a, B, sI, pins, σ', H', cls, d, rfl, J, nb, up3.trans up4, .inr (.inr (by rw [hs]; exact hh4)), na, os, ag, w⟩
        first
          | exact wpAny_bind (wpAny_pure (wpAny_bind fin))
          | exact wpAny_bind fin
      | @cons t r ts b₀ suite pos' hds2 l2 hc hsu rest ih =>
        intro w h3 fl3 up3
        obtain ⟨b, hb1, hyes, hno⟩ := w
        have J3 : Inv X pins σ' H' { s' with heap := h3 } := J.landed nb fl3.1 up3 os ag
        obtain ⟨oe3, vs3, he3, hz3, hd3⟩ := fl3.there
        have nfr := notFr fl3.2.2.1 he3 hd3
        have nL : a ≠ X.env.locals := fun z => nfr (List.mem_filterMap.mpr ⟨X.env, List.mem_cons_self, by rw [hf, z]⟩)
        have nF : a ∉ X.fs := fun hm => by
          obtain ⟨e, he, q⟩ := List.mem_filterMap.mp hm
          exact nfr (List.mem_filterMap.mpr ⟨e, List.mem_cons_of_mem _ he, q⟩)
        have S3 := J3.suite he3 hd3 na nL nF
        refine wpAny_handleBy_cons (codeAny_handlers_test ?_) (by intro q; cases q)
        have LT : PySem.W.Looks (model X.prog X.w) h3 (typeOf (.ref a)) cls := fun A Q E s k q => wpAny_typeOf_ref (k _ _ he3) (by rw [hz3.1]; exact q)
        refine hc a oe3 (X.pn ++ pins) σ' H' _ S3 cls b hb1 LT _ _ fun h4 kp4 => ?_
        have fl4 := flyZ_kept kp4 fl3
        have up4 : sI.heap.UpToSlots h4 := up3.trans (Heap.UpToSlots.of_keeps kp4)
        cases b with
        | true =>
          refine codeAny_handlers_suite_as ?_
          refine HandSPX.lands_againZ fl4 fun h5 fl5 up5 => ?_
          have J5 : Inv X pins σ' H' { s' with heap := h5 } := J.landed nb fl5.1 (up4.trans up5) os ag
          obtain ⟨oe5, vs5, he5, hz5, hd5⟩ := fl5.there
          have S5 := J5.suite he5 hd5 na nL nF
          refine store_ok (X := X.suite a ((a, oe5) :: (X.pn ++ pins))) (v := .ref a) S5 hN hi hloc rfl (fun s6 S6 => ?_) (.inr hln)
          refine wpAny_mono ((hsu a oe5 cls d (X.pn ++ pins) hz5 ⟨_, hd5⟩).run [] s6 _ H' _ S6 (hyes rfl J.len a na)) (fun f s6 hsp => ?_) (fun _ _ z => False.elim z)
          have end_ : ∀ {σ6 : L2.St} {H6 : Hp} {Q : Shared → Prop}, Inv (X.suite a ((a, oe5) :: (X.pn ++ pins))) [] σ6 H6 s6 → (∀ s7, Inv X pins (σ6.set i none) H6 s7 → Q s7) →
              wpAny (model X.prog X.w) X.A (do bindName X.env n .none; unbindBehindTheSuite X.env n pos') (fun _ s7 => Q s7) X.xe s6 := fun {σ6 H6 Q} S6 hq => gone_ok (S6.unsuite ok) hN hi hln hq
          cases f with
          | next =>
            obtain ⟨σ6, H6, S6, q6⟩ := hsp
            exact end_ S6 fun s7 J7 => ⟨_, _, J7, q6⟩
          | brk =>
            obtain ⟨σ6, H6, S6, q6⟩ := hsp
            exact end_ S6 fun s7 J7 => ⟨_, _, J7, q6⟩
          | cont =>
            obtain ⟨σ6, H6, S6, q6⟩ := hsp
            exact end_ S6 fun s7 J7 => ⟨_, _, J7, q6⟩
          | ret u =>
            obtain ⟨v6, σ6, H6, S6, r6, q6⟩ := hsp
            exact end_ S6 fun s7 J7 => ⟨_, _, _, J7, r6, q6⟩
        | false =>
          show wpAny _ X.A (handleBy (.ref a) X.env hds2) _ _ _
          exact ih (hno rfl) h4 fl4 up4
    exact go hh w h3 fl3 (up.trans up3)
  · cases f with
    | next =>
      obtain ⟨σ', H', J', q⟩ := hsp
      exact wpAny_execs_nil ⟨σ', H', J'.ofTry ok, q⟩
    | brk =>
      obtain ⟨σ', H', J', q⟩ := hsp
      exact ⟨σ', H', J'.ofTry ok, q⟩
    | cont =>
      obtain ⟨σ', H', J', q⟩ := hsp
      exact ⟨σ', H', J'.ofTry ok, q⟩
    | ret u =>
      obtain ⟨v, σ', H', J', r, q⟩ := hsp
      exact ⟨v, σ', H', J'.ofTry ok, r, q⟩
end Hs
namespace Hs
open PySem PySem.Spec PyProof.Rows L2 Evl
/-- e.n in an except suite, whatever own class the error has -/
def tXfA (K : PySem.W.Frag) (a : Addr) (cls : Value) (d : Option Addr) (n : Str) (te : TE) : TE := fun σ H Q => te σ H fun x H1 => x = .ref a ∧ ∃ C : Addr, cls = .ref C ∧ XfC K C ∧ PySem.W.findIn K (.ref C) n = some none ∧
  ∃ (dd : Addr) (fs : List (Str × V)) (v : V), d = some dd ∧ H1 dd = some (.xd fs) ∧ fs.lookup n = some v ∧ Q v H1
theorem pe_xfA {X : Cx} {a : Addr} {oe : Obj} {cls : Value} {d : Option Addr} {pn : List (Addr × Obj)} {e : Expr} {te : TE} {pos : Pos} {n : Str} (hz : Zc cls d oe) (hf : ∃ vs, oe.data = .fields vs) (he : PE (X.suite a ((a, oe) :: pn)) e te)
    (hb : attributeBase e n X.env (eval e X.env) = eval e X.env := by rfl) : PE (X.suite a ((a, oe) :: pn)) (.Attribute e n pos) (tXfA X.K a cls d n te) := by
  refine ⟨fun pins s σ H Q I h => ?_⟩
  refine attr_of hb (thn (he.run pins s σ H _ I h) fun u s1 hh => ?_)
  obtain ⟨x, H1, I1, rx, ex, C, ec, T, hno, dd, fs, v, ed, ea, l, q⟩ := hh
  subst ex
  obtain rfl : u = Value.ref a := rx
  subst ec
  subst ed
  obtain ⟨ha, _⟩ := I1.pin (a, oe) (List.mem_append_left _ List.mem_cons_self)
  obtain ⟨vs, hd⟩ := hf
  have hx : ObjOk X.prog X.w H1 s1.heap dd (.xd fs) := I1.hok dd _ ea
  obtain ⟨mA, hns, hr⟩ := hx
  obtain ⟨od, ho, hl⟩ := lookIn_ns hns
  obtain ⟨u, hu, ru⟩ := RelO.some_of (v := v) (o := mA n) (by rw [← l]; exact hr n)
  have J : PySem.W.InstAt s1.heap a oe C (some od) := ⟨ha, hz.1, by unfold PySem.W.notCls; rw [hd] <;> rfl, by rw [hz.2]; exact ho⟩
  exact HandSPX.exc_get I1.kIn J T.ga T.gg T.exC (PySem.W.findObj_own T.hdC hno rfl (by rw [hl, hu])) (handed_of ru) ⟨v, H1, I1.tok _, ru, q⟩
/-- the classes that the law's own catcher names -/
structure Cats (mg : Str → Option Value) (cN cL cK cB cS cM cC : Addr) : Prop where
  n : mg "NoThing" = some (.ref cN)
  l : mg "NoLook" = some (.ref cL)
  k : mg "Looked" = some (.ref cK)
  b : mg "BadText" = some (.ref cB)
  s : mg "ShadeError" = some (.ref cS)
  m : mg "Missing" = some (.ref cM)
  c : mg "Crowded" = some (.ref cC)
/-- an error class that only the last clause takes, with its word -/
structure Word (K : PySem.W.Frag) (C cN cL cK cB cS cM cC : Addr) : Prop where
  n : PySem.W.exmOne K (.ref C) (.ref cN) = some false
  l : PySem.W.exmAny K (.ref C) [.ref cL, .ref cK] = some false
  b : PySem.W.exmOne K (.ref C) (.ref cB) = some false
  s : PySem.W.exmAny K (.ref C) [.ref cS, .ref cM, .ref cC] = some true
  xf : XfC K C
  no : PySem.W.findIn K (.ref C) "word" = some none
/-- what the catcher makes of what it calls: ('told', v), or the word of an error -/
def TTr (K : PySem.W.Frag) (cN cL cK cB cS cM cC : Addr) : (XK → Hp → VK → Prop) → Hp → VK → Prop := fun tl H Q =>
  tl (fun cls d H' => ∃ (C dd : Addr) (fs : List (Str × V)) (wd : Str), cls = .ref C ∧ d = some dd ∧ Word K C cN cL cK cB cS cM cC ∧ H' dd = some (.xd fs) ∧ fs.lookup ("word" : Str) = some (V.str wd) ∧ ∀ p, H' p = none → Q (.ref p) (upd H' p (.tup [.str wd]))) H
    (fun v H1 => ([V.str "told", v] : List V).length ≤ sizeLine ∧ ∀ p, H1 p = none → Q (.ref p) (upd H1 p (.tup [.str "told", v])))
abbrev sTried : Stmt := top 22
theorem scTried : FnScope ["_law_act", "e"] ["_law_act"] (defScope sTried) := ⟨rfl, rfl, rfl, by decide +kernel, rfl, by decide +kernel, by decide +kernel⟩
theorem tried_gives {X : Cx} {q : Str} {g : Addr} {cdg : Value} {cN cL cK cB cS cM cC : Addr} (ct : Cats X.mg cN cL cK cB cS cM cC) :
    LamX.GivesTo X ["_law_act", "e"] "_law_tried" (defScope sTried) g cdg (defBody sTried) "_law_act" q (TTr X.K cN cL cK cB cS cM cC) := by
  intro f c' s H Q tl act hc h
  have nd := scTried.nd
  refine ⟨_, pss_one (ps_try_manyA (i := 1) (n := "e") (X := (cxOf C8.CX0 X.prog X.w X.K X.mg X.base ["_law_act", "e"] "_law_tried" (defScope sTried) g cdg X.A X.stack s H C8.E0).nox)
      (tb := fun W D σ H => ∃ Ech : XK, (∀ cls d σ' H', Ech cls d H' → W cls d σ' H') ∧ σ[0]? = some (some (.ref f)) ∧ H c' = some (LamX.CodeO c' q) ∧ tl Ech H (fun v H1 => ([V.str "told", v] : List V).length ≤ sizeLine ∧ ∀ p, H1 p = none → D.rt (.ref p) (upd H1 p (.tup [.str "told", v]))))
      rfl rfl nd rfl rfl LamX.takes0 (fun W pn xe tk _ => ?_)
      (.cons (test_one ⟨rfl, by decide, .inl ct.n⟩) (fun a oe cls d pn hz hf => pss_one (ps_ret (pe_tup (pa_cons (pe_xfA hz hf (pv 1)) (pa_cons (pe_xfA hz hf (pv 1)) (pa_cons (pe_xfA hz hf (pv 1)) pa_nil))))))
      (.cons (test_two ⟨rfl, by decide, .inl ct.l⟩ ⟨rfl, by decide, .inl ct.k⟩) (fun a oe cls d pn hz hf => pss_one (ps_ret (pe_tup (pa_cons (pe_xfA hz hf (pv 1)) (pa_cons (pe_xfA hz hf (pv 1)) pa_nil)))))
      (.cons (test_one ⟨rfl, by decide, .inl ct.b⟩) (fun a oe cls d pn hz hf => pss_one (ps_ret (pe_tup (pa_cons (pe_xfA hz hf (pv 1)) (pa_cons (pe_xfA hz hf (pv 1)) pa_nil)))))
      (.cons (test_three ⟨rfl, by decide, .inl ct.s⟩ ⟨rfl, by decide, .inl ct.m⟩ ⟨rfl, by decide, .inl ct.c⟩) (fun a oe cls d pn hz hf => pss_one (ps_ret (pe_tup (pa_cons (pe_xfA hz hf (pv 1)) pa_nil)))) .nil))))), ?_⟩
  · refine ⟨fun pins s' σ H' D I h' => ?_⟩
    obtain ⟨Ech, hW, h1, h2, h3⟩ := h'
    exact (pss_one (ps_ret (pe_tup (pa_cons pe_str (pa_cons (act W pn xe Ech _ _ tk hW) pa_nil))))).run pins s' σ H' D I ⟨h1, h2, h3⟩
  · refine ⟨_, ?_, rfl, hc, h⟩
    rintro cls d σ' H' ⟨C, dd, fs, wd, rfl, rfl, wc, hx, hl, k⟩
    refine ⟨false, wc.n, fun z => Bool.noConfusion z, fun _ => ⟨false, wc.l, fun z => Bool.noConfusion z, fun _ => ⟨false, wc.b, fun z => Bool.noConfusion z, fun _ => ⟨true, wc.s, fun _ hlen a na => ?_, fun z => Bool.noConfusion z⟩⟩⟩⟩
    have h1 : 1 < σ'.length := by
      rw [hlen]
      show 1 < 2
      decide
    exact ⟨.ref a, List.getElem?_set_self h1, rfl, C, rfl, wc.xf, wc.no, dd, fs, _, rfl, hx, hl, sz_of (by simp), fun p hp => k p hp⟩
end Hs
namespace Hs
open PySem PySem.Spec PyProof.Rows L2 LamX NdefX
/-! ### functions by a lambda as values: kept anywhere, called frames deeper while their maker's frame rests -/
/-- a lambda's function: its cells cl, its code object c -/
structure LF where
  qual : Str
  params : Arguments
  body : Expr
  scope : Scope
  cl : List (Str × Addr)
  c : Addr
def LF.nf (F : LF) : NF := ⟨"<lambda>", F.qual, F.params, [], F.scope, F.cl, F.c⟩
/-- the object at f is the function F -/
def LamO (f : Addr) (F : LF) : HO := .ext fun h => ∃ pm ctv : Value, h.get? f = some (PySem.W.kla_obj "<lambda>" F.qual F.params F.body F.scope F.cl pm F.c ctv)
theorem lamO_ne {f : Addr} {F : LF} (ps : Array Value) : LamO f F ≠ .tbl ps := fun z => by
  unfold LamO at z
  cases z
theorem lamO_at {P : Program} {w : World} {H : Hp} {h : Heap} {f : Addr} {F : LF} (hok : HOk P w H h) (e : H f = some (LamO f F)) : ∃ pm ctv : Value, h.get? f = some (PySem.W.kla_obj "<lambda>" F.qual F.params F.body F.scope F.cl pm F.c ctv) := by
  obtain ⟨z, _, _⟩ := hok f _ e
  exact z
section
variable {X : Cx} {pins : List (Addr × Obj)} {σ : L2.St} {H : Hp} {s : Shared}
theorem inv_lam {F : LF} {t' : Nat} {pm ctv : Value} (I : Inv X pins σ H s) :
    Inv X pins σ (upd H s.heap.objs.size (LamO s.heap.objs.size F)) { s with heap := s.heap.push (PySem.W.kla_obj "<lambda>" F.qual F.params F.body F.scope F.cl pm F.c ctv), toks := t' } := by
  have e : (s.heap.push (PySem.W.kla_obj "<lambda>" F.qual F.params F.body F.scope F.cl pm F.c ctv)).get? s.heap.objs.size = some (PySem.W.kla_obj "<lambda>" F.qual F.params F.body F.scope F.cl pm F.c ctv) := Heap.get?_push_size _ rfl
  exact I.laid (a := s.heap.objs.size) (fun b u z => Heap.get?_push_of_some _ z) (Nat.le_refl _) ⟨⟨pm, ctv, e⟩, ⟨_, e⟩, fun h1 h2 ⟨p, t, z⟩ st => ⟨p, t, st _ z⟩⟩
/-- lambda ..: a function of its own, known from now on -/
theorem lam_new {T : List (Addr × Str)} {c P : Addr} {params : Arguments} {body : Expr} {scope : Scope} {pos : Pos} {E : Value → Shared → Prop} {Q : Value → Shared → Prop} (I : Inv X pins σ H s) (TB : TabB X.base X.mg c P) (hcode : X.env.code = .ref c)
    (hm : (P, X.env.qual ++ "<lambda>") ∈ T) (hu : ∀ p ∈ T, p.1 = P → p.2 = X.env.qual ++ "<lambda>") (hT : Tabs T H) (hdef : defaultsOf params X.env = ([], [])) (hfree : ∀ y ∈ scope.names, y.2 = .free → ∃ c, X.env.cells.lookup y.1 = some c)
    (h : ∀ (f c' : Addr) (H1 : Hp) (s' : Shared), Inv X pins σ H1 s' → ExtN H H1 → (∀ b, H1 b = Option.none → H b = Option.none) → Tabs T H1 → H f = none → H1 f = some (LamO f ⟨X.env.qual ++ "<lambda>", params, body, scope, cloFrom X.env.cells scope.names [], c'⟩) → H1 c' = some (CodeO c' (X.env.qual ++ "<lambda>")) → Q (.ref f) s') :
    wpAny (model X.prog X.w) X.A (eval (.Lambda params body scope pos) X.env) Q E s := by
  refine PySem.W.kla_eval hdef ?_
  obtain ⟨ps, hP, ht, ha⟩ := hT _ hm
  have keep : ∀ {G : Hp} {b : Addr} {o : HO} {n : Addr} {u : HO}, G n = none → G b = some o → upd G n u b = some o := fun {G b o n u} z e => (upd_ne (ne_of_none e z)).trans e
  have hB := TB.bm.keeps I.bk
  have hPo : s.heap.get? P = some { cls := .none, data := .fields ps } := I.hok P _ hP
  have hG := I.mod.glob.keeps I.bk
  have hC := TB.code.keeps I.bk
  cases hc : codeAmong pos ps.toList with
  | some cv =>
    obtain ⟨c', rfl, hco⟩ := ha pos cv hc
    refine PySem.W.kla_makeFunctionHit (mg := X.mg) (c := c) (P := P) (ps := ps) (closure_ok hfree) I.ok.glob hG hcode hC hPo ht hc hB fun ctv h' tk hx hsz => ?_
    have J : Inv X pins σ H { s with heap := h', toks := tk } := I.kept hx
    have n0 : H h'.objs.size = none := J.hok.fresh (Nat.le_refl _)
    exact h _ c' _ _ (inv_lam (F := ⟨X.env.qual ++ "<lambda>", params, body, scope, cloFrom X.env.cells scope.names [], c'⟩) J) (fun b o e _ => keep n0 e) (fun b e => upd_none e) (hT.ext fun b o e => keep n0 e) n0 upd_same (keep n0 hco)
  | none =>
    refine PySem.W.kla_makeFunction (mg := X.mg) (c := c) (P := P) (ps := ps) (closure_ok hfree) I.ok.glob hG hcode hC hPo ht hc TB.gP hB fun c' ctv h' tk hx hge hlt hrec htb => ?_
    obtain ⟨_, oc, vs, t, e2, hoc, hd, hv⟩ := hrec
    cases e2
    have nC : H c' = none := I.hok.fresh hge
    have J := inv_table (t' := tk) (more := #[rawInt pos.line, rawInt pos.col, .ref c']) I hP (fun b o hb e => hx b o hb e) htb hge ⟨oc, vs, t, hoc, hd, hv⟩
    have n0 := J.hok.fresh (Nat.le_refl _)
    have go : ∀ b o, H b = some o → b ≠ P → upd (upd H P (.tbl (ps ++ #[rawInt pos.line, rawInt pos.col, .ref c']))) c' (CodeO c' (X.env.qual ++ "<lambda>")) b = some o := fun b o e nb => by
      rw [upd_ne (ne_of_none e nC), upd_ne nb]
      exact e
    have nP : ∀ b o, H b = some o → (∀ qs, o ≠ .tbl qs) → b ≠ P := fun b o e n z => by
      rw [z, hP] at e
      exact n ps (Option.some.inj e).symm
    have T1 : Tabs T (upd (upd H P (.tbl (ps ++ #[rawInt pos.line, rawInt pos.col, .ref c']))) c' (CodeO c' (X.env.qual ++ "<lambda>"))) := fun p hp => by
      have old : ∀ (ps' : Array Value), (∀ (p' : Pos) (cv : Value), codeAmong p' ps'.toList = some cv → ∃ c, cv = .ref c ∧ H c = some (CodeO c p.2)) → ∀ (p' : Pos) (cv : Value), codeAmong p' ps'.toList = some cv → ∃ d, cv = .ref d ∧ upd (upd H P (.tbl (ps ++ #[rawInt pos.line, rawInt pos.col, .ref c']))) c' (CodeO c' (X.env.qual ++ "<lambda>")) d = some (CodeO d p.2) := fun ps' z p' cv hcv => by
        obtain ⟨d, e1, e2⟩ := z p' cv hcv
        exact ⟨d, e1, go d _ e2 (nP d _ e2 codeO_ne)⟩
      by_cases hb : p.1 = P
      · have eq := hu p hp hb
        have eL : (ps ++ #[rawInt pos.line, rawInt pos.col, .ref c']).toList = ps.toList ++ [rawInt pos.line, rawInt pos.col, .ref c'] := by simp
        refine ⟨_, by rw [hb, upd_ne (ne_of_none hP nC), upd_same], by rw [eL]; exact PySem.TriplesOk_snoc _ _ _ _ ht, fun p' cv hcv => ?_⟩
        rw [eL] at hcv
        rcases among_app _ ht hcv with z | z
        · exact old ps (by rw [eq]; exact ha) p' cv z
        · exact ⟨c', z, by rw [eq, upd_same]⟩
      · obtain ⟨ps', a1, a2, a3⟩ := hT p hp
        exact ⟨ps', go _ _ a1 hb, a2, old ps' a3⟩
    refine h _ c' _ _ (inv_lam (F := ⟨X.env.qual ++ "<lambda>", params, body, scope, cloFrom X.env.cells scope.names [], c'⟩) J) (fun b o e n => keep n0 (go b o e (nP b o e n))) (fun b e => upd_none (upd_none (upd_none e))) (T1.ext fun b o e => keep n0 e) ?_ upd_same (keep n0 upd_same)
    exact I.hok.fresh (Nat.le_trans hge (Nat.le_of_lt hlt))
end
def tMkL (T : List (Addr × Str)) (mk : Addr → LF) : TE := fun _ H Q => Tabs T H ∧ ∀ (f c' : Addr) (H1 : Hp), ExtN H H1 → (∀ b, H1 b = Option.none → H b = Option.none) → Tabs T H1 → H f = none → H1 f = some (LamO f (mk c')) → H1 c' = some (CodeO c' (mk c').qual) → Q (.ref f) H1
theorem pe_lam {X : Cx} {T : List (Addr × Str)} {c P : Addr} {params : Arguments} {body : Expr} {scope : Scope} {pos : Pos} (TB : TabB X.base X.mg c P) (hcode : X.env.code = .ref c)
    (hm : (P, X.env.qual ++ "<lambda>") ∈ T) (hu : ∀ p ∈ T, p.1 = P → p.2 = X.env.qual ++ "<lambda>") (hdef : defaultsOf params X.env = ([], [])) (hfree : ∀ y ∈ scope.names, y.2 = .free → X.env.scope.names.lookup y.1 = some .cell ∨ X.env.scope.names.lookup y.1 = some .free) :
    PE X (.Lambda params body scope pos) (tMkL T fun c' => ⟨X.env.qual ++ "<lambda>", params, body, scope, cloFrom X.env.cells scope.names [], c'⟩) := by
  refine ⟨fun pins s σ H Q I h => ?_⟩
  obtain ⟨hT, h⟩ := h
  refine lam_new I TB hcode hm hu hT hdef (fun y hy e => (hfree y hy e).elim (fun z => I.ok.has _ (.inl z)) fun z => I.ok.has _ (.inr z)) fun f c' H1 s' I1 eN nn T1 f0 f1 c1 => ?_
  exact ⟨.ref f, H1, I1, rfl, h f c' H1 eN nn T1 f0 f1 c1⟩
/-! ### what such a function promises: sp ws, ws what its cells hold when it is called -/
structure LOk (P : Program) (w : World) (K : PySem.W.Frag) (mg : Str → Option Value) (base : Heap) (CX : CXT) (k : Nat) (F : LF) (ps fr : List Str) (sp : List (Option V) → Sp) : Prop where
  len : ∀ ws vs H Q E, sp ws vs H Q E → vs.length = ps.length
  run : ∀ (A : Around) (outer : List Env) (s : Shared) (H : Hp) (f : Addr) (us : List Value) (vs : List V) (ws : List (Option V)) (Q : VK) (E : XK), Room k A → Env0 P w K mg base A outer s H → H f = some (LamO f F) → H F.c = some (CodeO F.c F.qual) →
    CellsAt F.cl fr ws s.heap H → Vals vs us → sp ws vs H Q E → codeAny (model P w) A (.call (.ref f) ⟨us, []⟩) (CR CX outer P w H s Q E) s
section
variable {CX : CXT} {P : Program} {w : World} {K : PySem.W.Frag} {mg : Str → Option Value} {base : Heap} {N ps fr : List Str} {F : LF} {k : Nat} {sp : List (Option V) → Sp}
theorem lok_of (S : NScope N ps fr F.scope) (hb : ∀ (pm ctv : Value) (us : List Value), us.length = ps.length → bindArgs (PySem.W.kla_fn "<lambda>" F.qual F.params F.body F.scope F.cl pm (.ref F.c) ctv) ⟨us, []⟩ = pure (ps.zip us)) (len : ∀ ws vs H Q E, sp ws vs H Q E → vs.length = ps.length)
    (hbody : ∀ (A : Around) (outer : List Env) (s : Shared) (H : Hp) (f : Addr) (vs : List V) (ws : List (Option V)) (Q : VK) (E : XK), Room k (A.deeper (envF F.nf f s.heap.objs.size)) → ws.length = fr.length → sp ws vs H Q E →
      ∃ t, PE (ncx CX P w K mg base N F.nf f A outer s H E) F.body t ∧ t (startF N vs ws) H Q) :
    LOk P w K mg base CX (k + 1) F ps fr sp := by
  refine ⟨len, fun A outer s H f us vs ws Q E hr e0 hf hc C r hsp => ?_⟩
  have hl := len _ _ _ _ _ hsp
  have lim : s.heap.NoLimit := e0.mod.nolimit.keeps fun b o e => (e0.bs b o e).1
  obtain ⟨pm, ctv, ho⟩ := lamO_at e0.hok hf
  refine PySem.W.kla_callFunE hr.depth ho rfl S.co S.gen rfl (codeO_at e0.hok hc) ?_
  rw [hb pm ctv us (by rw [← r.length]; exact hl)]
  refine wpAny_pure (wpAny_newFunctionEnv S.nocell (fun ⟨n, _⟩ hy => S.par n (List.of_mem_zip hy).1) (fun h₁ hns hsb => ⟨lim.fresh _ hsb, ?_⟩) S.kind)
  show codeAny _ _ (.expr F.body (envF F.nf f s.heap.objs.size)) _ _
  have kp : ∀ b o, s.heap.get? b = some o → h₁.get? b = some o := fun b o e => hsb.extBut b o (Nat.ne_of_lt (Heap.lt_size e)) (Heap.get?_push_of_some _ e)
  obtain ⟨t, ht, hq⟩ := hbody A outer s H f vs ws Q E (hr.deeper _) C.len hsp
  have I : Inv (ncx CX P w K mg base N F.nf f A outer s H E) [] (startF N vs ws) H { s with heap := h₁, toks := s.toks + (ps.zip us).length } := inv_startN (F := F.nf) S hr.hd e0 hl r C hns kp
  refine PySem.W.kla_codeExpr (wpAny_mono (ht.run [] _ _ H Q I hq) (fun v s' z => ?_) fun e s' z => z)
  obtain ⟨w', H', J, rv, q⟩ := z
  exact ⟨w', H', J.os, J.bare, J.base, J.hok, rv, q⟩
end
/-! ### calls -/
section
variable {Z : Cx} {pins : List (Addr × Obj)} {σ : L2.St} {H : Hp} {s : Shared} {cl : List (Str × Addr)} {fr : List Str} {ws : List (Option V)}
/-- cells that stand in the base hold what they held there -/
theorem cells_base (C : CellsAt cl fr ws Z.base fun _ => none) (I : Inv Z pins σ H s) : CellsAt cl fr ws s.heap H := by
  have kp : ∀ c v, Z.base.IsCell c v → s.heap.IsCell c v := fun c v ⟨o, ho, hd⟩ => ⟨o, I.bk _ _ ho, hd⟩
  refine ⟨C.len, fun y c e => ?_, C.inj, fun i y e => ?_⟩
  · obtain ⟨_, v, z⟩ := C.all y c e
    have z2 := kp c v z
    obtain ⟨o, ho, _⟩ := z
    exact ⟨(I.bs _ _ ho).2, v, z2⟩
  · obtain ⟨c, hc, hv⟩ := C.has i y e
    refine ⟨c, hc, fun v ev => ?_⟩
    obtain ⟨u, r, z⟩ := hv v ev
    exact ⟨u, r, kp c _ z⟩
theorem cells_in {base' : Heap} (C : CellsAt cl fr ws s.heap H) (hb : ∀ y c, cl.lookup y = some c → base'.get? c = s.heap.get? c) : CellsAt cl fr ws base' fun _ => none := by
  have kp : ∀ y c, cl.lookup y = some c → ∀ v, s.heap.IsCell c v → base'.IsCell c v := fun y c e v ⟨o, ho, hd⟩ => ⟨o, (hb y c e).trans ho, hd⟩
  refine ⟨C.len, fun y c e => ?_, C.inj, fun i y e => ?_⟩
  · obtain ⟨_, v, z⟩ := C.all y c e
    exact ⟨rfl, v, kp y c e v z⟩
  · obtain ⟨c, hc, hv⟩ := C.has i y e
    refine ⟨c, hc, fun v ev => ?_⟩
    obtain ⟨u, r, z⟩ := hv v ev
    exact ⟨u, r, kp y c hc _ z⟩
theorem lamAt_of {f : Addr} {F : LF} (I : Inv Z pins σ H s) (e : H f = some (LamO f F)) : PySem.W.FnAt f s.heap := by
  obtain ⟨pm, ctv, ho⟩ := lamO_at I.hok e
  exact ⟨_, _, _, _, ho⟩
end
section
variable {Z : Cx} {CX : CXT} {F : LF} {ps fr : List Str} {ws : List (Option V)} {i j k : Nat} {x : Str} {sp : List (Option V) → Sp} {E : XK} {t : TA} {e : Expr} {es : List Expr} {p pos : Pos}
theorem run_l {pins : List (Addr × Obj)} {σ : L2.St} {H : Hp} {s : Shared} {Q : VK} {f : Addr} {us : List Value} {vs : List V} (Fn : LOk Z.prog Z.w Z.K Z.mg Z.base CX k F ps fr sp) (hr : Room j Z.A) (hk : k ≤ j) (hx : Passes CX Z E) (I : Inv Z pins σ H s)
    (hf : H f = some (LamO f F)) (hc : H F.c = some (CodeO F.c F.qual)) (C : CellsAt F.cl fr ws s.heap H) (r : Vals vs us) (q : sp ws vs H Q E) :
    wpAny (model Z.prog Z.w) Z.A (call (.ref f) us) (EP Z pins σ Q) Z.xe s := by
  refine wpAny_call (codeAny_mono (Fn.run Z.A Z.stack s H f us vs _ Q E (hr.mono hk) I.env0 hf hc C r q) fun r s' hq => ?_)
  cases r with
  | error er => exact hx pins σ H s er s' I hq
  | ok fl =>
    cases fl with
    | ret u => exact I.after hq
    | next => exact False.elim hq
    | brk => exact False.elim hq
    | cont => exact False.elim hq
/-- x(), x a name of the running frame that holds such a function; its maker's frame rests -/
theorem pe_callL0 (Fn : LOk Z.prog Z.w Z.K Z.mg Z.base CX k F [] fr sp) (C : CellsAt F.cl fr ws Z.base fun _ => none) (hr : Room j Z.A) (hk : k ≤ j) (hx : Passes CX Z E) (hN : Z.N[i]? = some x) (hv : Vis Z.env.scope x)
    (hd : (x == ("__debug__" : Str)) = false := by decide) (hcd : (x == ("__classdict__" : Str)) = false := by decide) :
    PE Z (.Call (.Name x p) [] [] pos) (fun σ H Q => ∃ f, σ[i]? = some (some (.ref f)) ∧ H f = some (LamO f F) ∧ H F.c = some (CodeO F.c F.qual) ∧ sp ws [] H Q E) := by
  refine ⟨fun pins s σ H Q I h => ?_⟩
  obtain ⟨f, hs, h1, h2, q⟩ := h
  refine wpAny_Call_Name_kw (thn ((pe_var (pos := p) hN hv hd hcd).run pins s σ H (fun v H1 => v = .ref f ∧ H1 = H) I ⟨.ref f, hs, rfl, rfl⟩) fun u s1 ⟨v, H1, I1, r1, ev, eH⟩ => ?_)
  subst ev
  rw [eH] at I1
  obtain rfl : u = Value.ref f := r1
  exact PySem.W.callWith_F0 (first := []) (lamAt_of I1 h1) (run_l Fn hr hk hx I1 h1 h2 (cells_base C I1) .nil q)
/-- x(e, ..) -/
theorem pe_callL (Fn : LOk Z.prog Z.w Z.K Z.mg Z.base CX k F ps fr sp) (C : CellsAt F.cl fr ws Z.base fun _ => none) (hr : Room j Z.A) (hk : k ≤ j) (hx : Passes CX Z E) (hN : Z.N[i]? = some x) (hv : Vis Z.env.scope x) (ha : PA Z (e :: es) t)
    (hd : (x == ("__debug__" : Str)) = false := by decide) (hcd : (x == ("__classdict__" : Str)) = false := by decide)
    (he : starEach (e :: es) Z.env = (false, eval e Z.env) :: starEach es Z.env := by rfl) (hpl : (backTo pos (starEach es Z.env)).any (·.1) = false := by rfl) :
    PE Z (.Call (.Name x p) (e :: es) [] pos) (fun σ H Q => ∃ f, σ[i]? = some (some (.ref f)) ∧ H f = some (LamO f F) ∧ t σ H fun vs H1 => H1 f = some (LamO f F) ∧ H1 F.c = some (CodeO F.c F.qual) ∧ sp ws vs H1 Q E) := by
  refine ⟨fun pins s σ H Q I h => ?_⟩
  obtain ⟨f, hs, h1, ht⟩ := h
  refine wpAny_Call_Name_kw (thn ((pe_var (pos := p) hN hv hd hcd).run pins s σ H (fun v H1 => v = .ref f ∧ H1 = H) I ⟨.ref f, hs, rfl, rfl⟩) fun u s1 ⟨v, H1, I1, r1, ev, eH⟩ => ?_)
  subst ev
  rw [eH] at I1
  obtain rfl : u = Value.ref f := r1
  refine PySem.W.callWith_F (first := []) (lamAt_of I1 h1) (thn (ha.run pos pins s1 σ H _ I1 ht) fun us s2 ⟨vs, H2, I2, r, h3, h4, q⟩ => ⟨lamAt_of I2 h3, ?_⟩) he hpl
  exact run_l Fn hr hk hx I2 h3 h4 (cells_base C I2) r q
end
end Hs
namespace Hs
open PySem PySem.Spec PyProof.Rows L2 LamX NdefX
/-! ### a call under a wider base: the caller's cells stand in it, so that they are known in every frame below -/
theorem env_more {X : Cx} {pins : List (Addr × Obj)} {σ : L2.St} {H : Hp} {s : Shared} (I : Inv X pins σ H s) (hfn : ∀ y, X.fn y = true) :
    ∃ base' : Heap, (∀ b o, X.base.get? b = some o → base'.get? b = some o) ∧ (∀ y c, X.env.cells.lookup y = some c → base'.get? c = s.heap.get? c) ∧ Env0 X.prog X.w X.K X.mg base' X.A X.stack s H := by
  have isC : ∀ y c, X.env.cells.lookup y = some c → c ∈ X.env.cells.map (·.2) := fun y c e => List.mem_map.mpr ⟨(y, c), PySem.mem_of_lookup e, rfl⟩
  let cs := (X.env.cells.filter fun q => X.env.cells.lookup q.1 == some q.2).map (·.2)
  have csC : ∀ c, c ∈ cs → ∃ y, X.env.cells.lookup y = some c := fun c hc => by
    obtain ⟨q, hq, e⟩ := List.mem_map.mp hc
    have z := (List.mem_filter.mp hq).2
    exact ⟨q.1, by rw [← e]; exact beq_iff_eq.mp z⟩
  have inC : ∀ y c, X.env.cells.lookup y = some c → c ∈ cs := fun y c e => List.mem_map.mpr ⟨(y, c), List.mem_filter.mpr ⟨PySem.mem_of_lookup e, by rw [beq_iff_eq]; exact e⟩, rfl⟩
  let l := (List.range s.heap.objs.size).filter fun b => (X.base.get? b).isNone && !(cs.contains b)
  have inL : ∀ b, b < s.heap.objs.size → X.base.get? b = none → b ∉ cs → b ∈ l := fun b h1 h2 h3 => by
    refine List.mem_filter.mpr ⟨List.mem_range.mpr h1, ?_⟩
    rw [h2]
    have h4 : cs.contains b = false := by
      cases q : cs.contains b with
      | false => rfl
      | true => exact absurd (List.contains_iff_mem.mp q) h3
    rw [h4] <;> rfl
  have outL : ∀ b, b ∈ l → X.base.get? b = none ∧ b ∉ cs := fun b hb => by
    have z := (List.mem_filter.mp hb).2
    obtain ⟨z1, z2⟩ := Bool.and_eq_true_iff.mp z
    refine ⟨Option.isNone_iff_eq_none.mp z1, fun q => ?_⟩
    rw [List.contains_iff_mem.mpr q] at z2
    cases z2
  have E0 := I.env0
  have up : ∀ b o, X.base.get? b = some o → (PySem.W.hideAll s.heap l).get? b = some o := fun b o e => PySem.W.hideAll_get l (E0.bs b o e).1 fun z => by
    rw [(outL b z).1] at e
    cases e
  refine ⟨PySem.W.hideAll s.heap l, up, fun y c e => ?_, E0.frames, ⟨E0.mod.kin.keeps up, E0.mod.glob.keeps up, ?_, E0.mod.nolimit.keeps up⟩, fun b o e => ?_, Nat.le_of_eq (PySem.W.hideAll_size _ _), ?_, E0.frf, E0.hok, E0.bare⟩
  · obtain ⟨v, o, ho, _⟩ := I.cell y c e
    rw [ho]
    exact PySem.W.hideAll_get l ho fun z => (outL c z).2 (inC y c e)
  · obtain ⟨mb, h1, h2⟩ := E0.mod.blt
    exact ⟨mb, h1.keeps up, h2⟩
  · have e1 := PySem.W.of_hideAll l e
    refine ⟨e1, ?_⟩
    by_cases hc : b ∈ cs
    · obtain ⟨y, hy⟩ := csC b hc
      exact I.freeC y b hy
    · cases hb : X.base.get? b with
      | some o' => exact (E0.bs b o' hb).2
      | none =>
        rw [PySem.W.hideAll_none l (inL b (Heap.lt_size e1) hb hc)] at e
        cases e
  · refine funFrames_none E0.funs fun L hL => ?_
    obtain ⟨hn, o, ho, _⟩ := E0.funs.mem hL
    refine PySem.W.hideAll_none l (inL L (Heap.lt_size ho) hn fun hc => ?_)
    obtain ⟨y, hy⟩ := csC L hc
    rcases List.mem_cons.mp (I.stkSub L hL) with z | z
    · exact I.cne y L hy z
    · obtain ⟨_, o2, ho2, _⟩ := I.ok.funs.mem z
      exact absurd (Nat.lt_of_lt_of_le (Heap.lt_size ho2) (I.ok.cab y L (hfn y) hy)) (Nat.lt_irrefl _)
/-- base' holds the running frame's cells, with what its names stand for -/
def Clo (X : Cx) (σ : L2.St) (base' : Heap) : Prop := ∀ (cl : List (Str × Addr)) (fr : List Str) (js : List Nat), (X.Ok → Caps X cl fr js) → CellsAt cl fr (js.map (slotAt σ)) base' fun _ => none
/-- an own def that gets functions which the running frame made -/
theorem pe_ownB {X : Cx} {k j : Nat} {x : Str} {ps : List Str} {sp : Heap → Sp} {e : Expr} {es : List Expr} {t : TA} {p pos : Pos} (O : ∀ base', (∀ b o, X.base.get? b = some o → base'.get? b = some o) → Own X.prog X.w X.K X.mg base' k x ps (sp base')) (hfn : ∀ y, X.fn y = true) (hr : Room j X.A) (hk : k ≤ j) (hg : Gl X x) (ha : PA X (e :: es) t)
    (hdb : (x == ("__debug__" : Str)) = false := by decide) (he : starEach (e :: es) X.env = (false, eval e X.env) :: starEach es X.env := by rfl) (hpl : (backTo pos (starEach es X.env)).any (·.1) = false := by rfl) :
    PE X (.Call (.Name x p) (e :: es) [] pos) (fun σ H Q => t σ H fun vs H1 => ∀ base', (∀ b o, X.base.get? b = some o → base'.get? b = some o) → Clo X σ base' → sp base' vs H1 Q C8.E0) := by
  obtain ⟨f, fd, _, m, kp, b⟩ := (O X.base fun _ _ z => z).ex
  refine ⟨fun pins s σ H Q I h => ?_⟩
  refine wpAny_Call_Name_kw (ld_glob I hg m ?_ hdb)
  refine PySem.W.callWith_K (h₀ := X.base) I.ok.mod.kin kp (thn (ha.run pos pins s σ H _ I h) fun us s1 ⟨vs, H1, I1, r, q⟩ => ⟨I1.kIn, ?_⟩) he hpl
  obtain ⟨base', up, cells, E1⟩ := env_more I1 hfn
  have q1 := q base' up fun cl fr js cp => cells_in (cells_of I1 (cp I1.ok)) fun y c e => cells y c ((cp I1.ok).sub y c e)
  obtain ⟨f', fd', F, m', kp', b'⟩ := (O base' up).ex
  have ef : f' = f := by
    rw [m] at m'
    cases m'
    rfl
  subst ef
  have hl : vs.length = ps.length := F.len _ _ _ _ q1
  refine wpAny_call (codeAny_mono (F.run X.A X.stack s1 H1 ⟨us, []⟩ us vs Q C8.E0 (hr.mono hk) E1 ?_ r q1) fun r s' hq => ?_)
  · have z := b' s1 us I1.kIn (by rw [List.append_nil, ← r.length, hl])
    rw [List.append_nil] at z
    exact z
  · cases r with
    | error er => exact (show False from hq).elim
    | ok fl =>
      cases fl with
      | ret u => exact I1.after hq
      | next => exact False.elim hq
      | brk => exact False.elim hq
      | cont => exact False.elim hq
/-- f is a function by a lambda whose cells stand in the base; tl: what its call does -/
def Act (P : Program) (w : World) (K : PySem.W.Frag) (mg : Str → Option Value) (base : Heap) (k : Nat) (q : Str) (H : Hp) (f : Addr) (tl : XK → Hp → VK → Prop) : Prop :=
  ∃ (F : LF) (fr : List Str) (ws : List (Option V)) (sp : List (Option V) → Sp), F.qual = q ∧ LOk P w K mg base (L2.CX P w) k F [] fr sp ∧ CellsAt F.cl fr ws base (fun _ => none) ∧ H f = some (LamO f F) ∧ H F.c = some (CodeO F.c F.qual) ∧ tl = fun E H' Q => H' f = some (LamO f F) ∧ sp ws [] H' Q E
/-- what the catcher promises of it -/
def spTried (P : Program) (w : World) (K : PySem.W.Frag) (mg : Str → Option Value) (base : Heap) (k : Nat) (q : Str) (cN cL cK cB cS cM cC : Addr) : Sp := fun vs H Q _ => ∃ (f : Addr) (tl : XK → Hp → VK → Prop), vs = [.ref f] ∧ Act P w K mg base k q H f tl ∧ TTr K cN cL cK cB cS cM cC tl H Q
theorem ok_tried {P : Program} {w : World} {K : PySem.W.Frag} {mg : Str → Option Value} {base : Heap} {g : Addr} {fd : FuncData} {k : Nat} {q : Str} {cN cL cK cB cS cM cC : Addr} (F : FnP K "_law_tried" sTried g fd) (ct : Cats mg cN cL cK cB cS cM cC) :
    FnOk P w K mg base CX0 (k + 1) g fd ["_law_act"] (spTried P w K mg base k q cN cL cK cB cS cM cC) := by
  obtain ⟨oc, od, dV, kV, doc, pm, an, cdv, ctt, osl, rfl, lk, hcd, _, _⟩ := F.ex
  refine ⟨fun vs H Q E h => ?_, fun A outer s H args us vs Q E hr e0 hb r hsp => ?_⟩
  · obtain ⟨f, tl, rfl, _⟩ := h
    rfl
  · obtain ⟨f, tl, rfl, ⟨F, fr, ws, sp, rfl, Fn, C, h1, h2, rfl⟩, hT⟩ := hsp
    refine LamX.run_ofS (N := ["_law_act", "e"]) (ps := ["_law_act"]) (us := us) (vs := [.ref f]) lk hcd scTried hr e0 hb r rfl fun hr' => ?_
    obtain ⟨t', ht', hq'⟩ := tried_gives (X := { cxOf CX0 P w K mg base [] "" (defScope sTried) g cdv A outer s H E with A := A, stack := outer }) (q := F.qual) (g := g) (cdg := cdv) ct f F.c s H Q (fun E H' Q => H' f = some (LamO f F) ∧ sp ws [] H' Q E)
      (fun W pn xe E p1 p2 tk hW => ⟨fun pins s1 σ H1 Q1 I1 h => (pe_callL0 (i := 0) (x := "_law_act") (E := E) Fn C hr' (Nat.le_refl _) (passes_call tk hW) rfl (.inl rfl)).run pins s1 σ H1 Q1 I1 ⟨f, h.1, h.2.2.1, h.2.1, h.2.2.2⟩⟩) h2 hT
    exact ⟨t', ht'.nox, hq'⟩
end Hs
namespace Hs
open PySem PySem.Spec PyProof.Rows L2 Evl LamX
/-- the catcher tells a new tuple of f, whatever is new -/
def Tells (P : Program) (w : World) (K : PySem.W.Frag) (mg : Str → Option Value) (base : Heap) (k : Nat) (q : Str) (cN cL cK cB cS cM cC : Addr) (H : Hp) (f : Addr) (xs : List V) : Prop :=
  ∀ H', Ex H H' → ∃ tl, Act P w K mg base k q H' f tl ∧ ∀ Q : VK, (∀ p H2, H' p = none → Ex H' H2 → H2 p = some (.tup xs) → Q (.ref p) H2) → TTr K cN cL cK cB cS cM cC tl H' Q
theorem Tells.ext {P : Program} {w : World} {K : PySem.W.Frag} {mg : Str → Option Value} {base : Heap} {k : Nat} {q : Str} {cN cL cK cB cS cM cC : Addr} {H H1 : Hp} {f : Addr} {xs : List V} (h : Tells P w K mg base k q cN cL cK cB cS cM cC H f xs) (e : Ex H H1) : Tells P w K mg base k q cN cL cK cB cS cM cC H1 f xs := fun H' e' => h H' (e.trans e')
/-- tuples that stand -/
def Tups (H : Hp) (ps : List Addr) (outs : List (List V)) : Prop := ∀ (i : Nat) (p : Addr) (xs : List V), ps[i]? = some p → outs[i]? = some xs → H p = some (.tup xs)
def spAll (P : Program) (w : World) (K : PySem.W.Frag) (mg : Str → Option Value) (base : Heap) (k : Nat) (q : Str) (cN cL cK cB cS cM cC : Addr) : Sp := fun vs H Q _ => ∃ (a : Addr) (fs : List Addr) (outs : List (List V)), vs = [.ref a] ∧ SqL K H a (fs.map V.ref) ∧ fs.length = outs.length ∧ fs.length ≤ 1000 ∧
  (∀ (i : Nat) (f : Addr) (xs : List V), fs[i]? = some f → outs[i]? = some xs → Tells P w K mg base k q cN cL cK cB cS cM cC H f xs) ∧
  ∀ (p : Addr) (ps : List Addr) (H' : Hp), H p = none → Ex H H' → H' p = some (.lst (ps.map V.ref)) → ps.length = outs.length → Tups H' ps outs → Q (.ref p) H'
section
variable {P : Program} {w : World} {K : PySem.W.Frag} {mg : Str → Option Value} {base : Heap} {f : Addr} {fd : FuncData} {k : Nat} {q : Str} {cN cL cK cB cS cM cC : Addr}
abbrev sAll : Stmt := top 21
theorem scAll : FnScope ["_law_acts", "_law_act"] ["_law_acts"] (defScope sAll) := ⟨rfl, rfl, rfl, by decide +kernel, rfl, by decide +kernel, by decide +kernel⟩
theorem ok_all (F : FnP K "_law_all_tried" sAll f fd) (O__law_tried : Own P w K mg base (k + 1) "_law_tried" ["_law_act"] (spTried P w K mg base k q cN cL cK cB cS cM cC)) : FnOk P w K mg base CX0 (k + 2) f fd ["_law_acts"] (spAll P w K mg base k q cN cL cK cB cS cM cC) := by
  have nd := scAll.nd
  refine F.ok scAll (fun vs H Q E h => ?_) (fun cdv A outer s H vs Q E hr h => ⟨_, PSs.nox (pss_one (ps_ret (pe_lc (own := [("_law_act", 1)]) rfl nd (pi_list (pv 0)) (blkOk_by (N := ["_law_acts", "_law_act"]) (sc := defScope (Hs.top 21)) (by decide +kernel)) (fun _ _ _ _ _ => (pg_name (i := 1) nd rfl (Or.inl rfl))) (fun _ _ _ _ _ => pts_nil) (fun _ _ _ _ _ => (Hs.pe_own O__law_tried hr (by first | decide | omega) (by rfl) (pa_cons (pv 1) pa_nil)))))), ?_⟩)
  · obtain ⟨a, fs, outs, rfl, _⟩ := h
    rfl
  · obtain ⟨a, fs, outs, rfl, hS, hl, hz, hT, kk⟩ := h
    refine ⟨_, rfl, a, rfl, ⟨_, hS⟩, fun D hD => ?_⟩
    refine lc_list (xs := fs.map V.ref) (fun i H' => Ex H H' ∧ ∃ ps : List Addr, H' D = some (.lst (ps.map V.ref)) ∧ ps.length = i ∧ Tups H' ps outs) ⟨Ex.new hD, [], upd_same, rfl, fun i p xs h => by cases h⟩ (fun i H' _ p => ex_l p.1 hS) (fun i x H' hi p => ⟨rfl, ?_⟩) (fun H' p => ?_)
    · obtain ⟨e, ps, h1, h2, h3⟩ := p
      rw [List.getElem?_map] at hi
      obtain ⟨g, hg, rfl⟩ := Option.map_eq_some_iff.mp hi
      have hlt : i < fs.length := (List.getElem?_eq_some_iff.mp hg).1
      obtain ⟨xs, hxs⟩ : ∃ xs, outs[i]? = some xs := ⟨_, List.getElem?_eq_getElem (by omega)⟩
      obtain ⟨tl, ha, ht⟩ := hT i g xs hg hxs H' e
      refine ⟨_, rfl, g, tl, rfl, ha, ht _ fun r H2 hr2 e2 h4 => ⟨_, e2 _ _ h1, sz_lt (by rw [List.length_map]; omega), Ex.mut (e.trans e2) hD, ps ++ [r], by rw [upd_same, List.map_append] <;> rfl, by rw [List.length_append, h2] <;> rfl, fun j p ys hp hy => ?_⟩⟩
      have nD : ∀ p ys, H2 p = some (.tup ys) → p ≠ D := fun p ys z w => by
        rw [w, e2 _ _ h1] at z
        cases z
      by_cases hj : j < ps.length
      · rw [List.getElem?_append_left hj] at hp
        have z := e2 _ _ (h3 j p ys hp hy)
        rw [upd_ne (nD _ _ z)]
        exact z
      · rw [List.getElem?_append_right (by omega)] at hp
        have hj2 : j = i := by
          have : j - ps.length < 1 := (List.getElem?_eq_some_iff.mp hp).1
          omega
        subst hj2
        have e0 : j - ps.length = 0 := by omega
        rw [e0] at hp
        cases hp
        rw [hxs] at hy
        cases hy
        rw [upd_ne (nD _ _ h4)]
        exact h4
    · obtain ⟨e, ps, h1, h2, h3⟩ := p
      exact kk D ps H' hD e h1 (by rw [h2, List.length_map, hl]) h3
end
end Hs
namespace Hs
open PySem PySem.Spec PyProof.Rows L2 Evl
def RetU (xs : List V) (H : Hp) (Q : VK) : Prop := ∀ p H2, H p = none → Ex H H2 → H2 p = some (.tup xs) → Q (.ref p) H2
/-- an own def that may raise, by its promise; dvs: the defaults that fill up -/
structure OwnX (P : Program) (w : World) (K : PySem.W.Frag) (mg : Str → Option Value) (base : Heap) (k : Nat) (x : Str) (ps : List Str) (dvs : List V) (sp : Sp) : Prop where
  ex : ∃ (f : Addr) (fd : FuncData) (ds : List Value), FnOk P w K mg base (L2.CX P w) k f fd ps sp ∧ mg x = some (.ref f) ∧ PySem.W.keepIn K (.ref f) = true ∧ Vals dvs ds ∧ Binds K fd ps ds
/-- .. where it raises nothing -/
theorem pe_ownX {X : Cx} {k j : Nat} {x : Str} {ps : List Str} {dvs : List V} {sp : Sp} {e : Expr} {es : List Expr} {t : TA} {p pos : Pos} (O : OwnX X.prog X.w X.K X.mg X.base k x ps dvs sp) (hr : Room j X.A) (hk : k ≤ j) (hg : Gl X x) (ha : PA X (e :: es) t)
    (hdb : (x == ("__debug__" : Str)) = false := by decide) (he : starEach (e :: es) X.env = (false, eval e X.env) :: starEach es X.env := by rfl) (hpl : (backTo pos (starEach es X.env)).any (·.1) = false := by rfl) :
    PE X (.Call (.Name x p) (e :: es) [] pos) (tCall sp dvs E0 t) := by
  obtain ⟨f, fd, ds, F, m, kp, d, b⟩ := O.ex
  exact pe_call F (hr.mono hk) hg m kp b d passL ha hdb he hpl
/-- .. where what it raises is taken -/
theorem pe_ownT {X : Cx} {k j : Nat} {x : Str} {ps : List Str} {dvs : List V} {sp : Sp} {e : Expr} {es : List Expr} {t : TA} {p pos : Pos} {Ex : XK} (O : OwnX X.prog X.w X.K X.mg X.base k x ps dvs sp) (hr : Room j X.A) (hk : k ≤ j) (hg : Gl X x) (hx : Passes (L2.CX X.prog X.w) X Ex) (ha : PA X (e :: es) t)
    (hdb : (x == ("__debug__" : Str)) = false := by decide) (he : starEach (e :: es) X.env = (false, eval e X.env) :: starEach es X.env := by rfl) (hpl : (backTo pos (starEach es X.env)).any (·.1) = false := by rfl) :
    PE X (.Call (.Name x p) (e :: es) [] pos) (tCall sp dvs Ex t) := by
  obtain ⟨f, fd, ds, F, m, kp, d, b⟩ := O.ex
  exact pe_call F (hr.mono hk) hg m kp b d hx ha hdb he hpl
def rHas : R2 := fun x y H Q => ∃ (c : Nat) (z : Str), x = .str ⟨#[c]⟩ ∧ y = .str z ∧ Q (.bl (decide (c ∈ z.cps.toList))) H
theorem op_has {X : Cx} : OpR X (compareOp .In) rHas := op_in_sign
theorem pi_listK {X : Cx} {K : PySem.W.Frag} {tg l : Expr} {tl : TE} (hl : PE X l tl) (hK : X.K = K := by rfl) : PI X tg l (iList K tl) := by
  subst hK
  exact pi_list hl
end Hs
namespace Hs
open PySem PySem.Spec PyProof.Rows L2 Evl
/-! ### the law -/
theorem tabs_but {T : List (Addr × Str)} {H H' : Hp} {b : Addr} {xs : List V} (t : LamX.Tabs T H) (hb : H b = some (.lst xs)) (k : But H H' b) : LamX.Tabs T H' := fun p hp => by
  obtain ⟨ps, h1, h2, h3⟩ := t p hp
  refine ⟨ps, k _ _ h1 (ne_of h1 hb (by intro z; cases z)), h2, fun pos cv hc => ?_⟩
  obtain ⟨c, e1, e2⟩ := h3 pos cv hc
  exact ⟨c, e1, k _ _ e2 (ne_of e2 hb (by intro z; unfold LamX.CodeO at z; cases z))⟩
theorem tabs_upd {T : List (Addr × Str)} {H : Hp} {b : Addr} {xs : List V} {o : HO} (t : LamX.Tabs T H) (hb : H b = some (.lst xs)) : LamX.Tabs T (upd H b o) := tabs_but t hb (But.upd But.refl)
theorem bag_extN {H H' : Hp} {b l : Addr} {ns : List Int} {n : Nat} (B : BagAt H b l ns n) (e : LamX.ExtN H H') : BagAt H' b l ns n := by
  obtain ⟨⟨i, z, s, c, h1, h2, h3, h4, h5⟩, h6, h7⟩ := B
  exact ⟨⟨i, z, s, c, e _ _ h1 (fun _ z => by cases z), h2, h3, h4, h5⟩, e _ _ h6 (fun _ z => by cases z), h7⟩
theorem bag_upd {H : Hp} {b l a : Addr} {ns : List Int} {n : Nat} {o : HO} (B : BagAt H b l ns n) (h1 : b ≠ a) (h2 : l ≠ a) : BagAt (upd H a o) b l ns n := by
  obtain ⟨⟨i, z, s, c, q1, q2, q3, q4, q5⟩, q6, q7⟩ := B
  exact ⟨⟨i, z, s, c, by rw [upd_ne h1]; exact q1, q2, q3, q4, q5⟩, by rw [upd_ne h2]; exact q6, q7⟩
theorem bag_lst {H : Hp} {b l : Addr} {ns : List Int} {n : Nat} (B : BagAt H b l ns n) : ∃ xs, H b = some (.lst xs) := by
  obtain ⟨⟨i, z, s, c, h1, _⟩, _⟩ := B
  exact ⟨_, h1⟩
end Hs
namespace Hs
open PySem PySem.Spec PyProof.Rows L2 Evl LamX NdefX
/-- lambda: g(x1, x2), both names captured -/
theorem lok_call2 {P : Program} {w : World} {K : PySem.W.Frag} {mg : Str → Option Value} {base : Heap} {F : LF} {g x1 x2 : Str} {sp : Sp} {k : Nat} {ps : List Str} {p0 p1 p2 pos : Pos} (hb : F.body = .Call (.Name g p0) [.Name x1 p1, .Name x2 p2] [] pos) (hp : F.params = ⟨[], [], none, [], [], none, []⟩)
    (S : NScope [x1, x2] [] [x1, x2] F.scope) (hg : F.scope.names.lookup g = some .globalImplicit) (O : OwnX P w K mg base k g ps [] sp) (hd : (g == ("__debug__" : Str)) = false := by decide) (hd1 : (x1 == ("__debug__" : Str)) = false := by decide) (hc1 : (x1 == ("__classdict__" : Str)) = false := by decide) (hd2 : (x2 == ("__debug__" : Str)) = false := by decide) (hc2 : (x2 == ("__classdict__" : Str)) = false := by decide) :
    LOk P w K mg base (L2.CX P w) (k + 1) F [] [x1, x2] (fun ws vs H Q E => vs = [] ∧ ∃ v1 v2, ws = [some v1, some v2] ∧ sp [v1, v2] H Q E) := by
  refine lok_of S (fun pm ctv us hl => ?_) (fun ws vs H Q E h => by rw [h.1] <;> rfl) (fun A outer s H f vs ws Q E hr hl h => ?_)
  · cases us with
    | nil =>
      rw [hp]
      rfl
    | cons u r => cases hl
  · obtain ⟨rfl, v1, v2, rfl, hs⟩ := h
    refine ⟨_, by rw [hb]; exact pe_ownT O hr (Nat.le_refl _) hg (passes_call (E := E) (takes_of rfl rfl rfl rfl) (fun _ _ _ _ h => h)) (pa_cons (pe_var (i := 0) rfl (.inr (.inr (S.frk _ (by simp)))) hd1 hc1) (pa_cons (pe_var (i := 1) rfl (.inr (.inr (S.frk _ (by simp)))) hd2 hc2) pa_nil)) hd, ?_⟩
    exact ⟨_, rfl, _, rfl, hs⟩
/-- an error flies out of f: the catcher tells its word -/
theorem tells_fly {P : Program} {w : World} {K : PySem.W.Frag} {mg : Str → Option Value} {base : Heap} {k : Nat} {q wd : Str} {cN cL cK cB cS cM cC C : Addr} {H : Hp} {f : Addr} {F : LF} {fr : List Str} {ws : List (Option V)} {sp : List (Option V) → Sp} (Fn : LOk P w K mg base (L2.CX P w) k F [] fr sp) (hC : CellsAt F.cl fr ws base fun _ => none) (hq : F.qual = q)
    (hf : H f = some (LamO f F)) (hc : H F.c = some (CodeO F.c F.qual)) (wc : Word K C cN cL cK cB cS cM cC) (hs : ∀ H' Q E, Ex H H' → (∀ d H2, Ex H' H2 → H' d = none → H2 d = some (.xd [("word", .str wd)]) → E (.ref C) (some d) H2) → sp ws [] H' Q E) : Tells P w K mg base k q cN cL cK cB cS cM cC H f [.str wd] := fun H' e =>
  ⟨_, ⟨F, fr, ws, sp, hq, Fn, hC, e _ _ hf, e _ _ hc, rfl⟩, fun Q kk => ⟨e _ _ hf, hs H' _ _ e fun d H2 e2 _ hd => ⟨C, d, _, wd, rfl, rfl, wc, hd, rfl, fun p hp => kk p _ (fresh_back e2 hp) (e2.trans (Ex.new hp)) upd_same⟩⟩⟩
end Hs
namespace Hs
open PySem PySem.Spec PyProof.Rows L2
/-! ### for x in zip(*rows), x a name: the tuple that was handed out may be held or gone -/
abbrev IsZipF (h : Heap) (z TI TO : Addr) (f0 : Value) (f1 : Bool) : Prop := h.get? z = some { cls := .type "zip", dict := none, data := .fields #[f0, .bool f1, .bool false, .ref TI, .ref TO], slots := #[] }
abbrev IsTupA (h : Heap) (T : Addr) (arr : Array Value) : Prop := h.get? T = some { cls := .type "tuple", data := .seq arr }
def OwnF (f0 : Value) : Prop := f0 = .none ∨ ∃ T : Nat, f0 = rawInt T
theorem _root_.PySem.Heap.IsTuple.at' {h h' : Heap} {l : Addr} {xs : Array Value} (x : h.IsTuple l xs) (k : ∀ o, h.get? l = some o → h'.get? l = some o) : h'.IsTuple l xs := by
  obtain ⟨o, ho, r⟩ := x
  exact ⟨o, k o ho, r⟩
theorem set2 {arr : Array Value} {x1 x2 : Value} (h : arr.size = 2) : ((arr).setIfInBounds 0 x1).setIfInBounds 1 x2 = #[x1, x2] := by
  obtain ⟨l⟩ := arr
  match l, h with
  | [a, b], _ => rfl
theorem set3 {arr : Array Value} {x1 x2 x3 : Value} (h : arr.size = 3) : (((arr).setIfInBounds 0 x1).setIfInBounds 1 x2).setIfInBounds 2 x3 = #[x1, x2, x3] := by
  obtain ⟨l⟩ := arr
  match l, h with
  | [a, b, c], _ => rfl
section
variable {prog : Program} {w : World} {A : Around} {E : Value → Shared → Prop} {s : Shared}
theorem upSeq {T : Addr} {arr : Array Value} {x : Value} {k : Nat} {Q : Unit → Shared → Prop} (hT : IsTupA s.heap T arr) (hn : arr.size ≤ 10) (h : ∀ h', IsTupA h' T (arr.setIfInBounds k x) → Heap.SameBut T s.heap h' → Q () { s with heap := h' }) : wpAny (model prog w) A (updateSeq T (·.setIfInBounds k x)) Q E s := by
  refine wpAny_updateSeq hT rfl (h _ ?_ (Heap.SameBut.update ..)) (hz := Nat.le_trans hn (by decide)) (_hz' := by rw [Array.size_setIfInBounds]; exact Nat.le_trans hn (by decide))
  rw [IsTupA, Heap.get?_update_self _ hT rfl]
  simp [Obj.mapSeq]
theorem owned_any {z TI TO : Addr} {f0 : Value} {f1 : Bool} {Q : Bool → Shared → Prop} (hz : IsZipF s.heap z TI TO f0 f1) (hf0 : OwnF f0) (ht : Q true s) (hf : ∀ h', IsZipF h' z TI TO f0 true → Heap.SameBut z s.heap h' → Q false { s with heap := h' }) :
    wpAny (model prog w) A (Builtin.SmallTypes.ownedTupleIsFree (.ref z)) Q E s := by
  unfold Builtin.SmallTypes.ownedTupleIsFree
  rcases hf0 with rfl | ⟨T, rfl⟩
  · exact wpAny_bind (wpAny_field hz rfl (x := .none) rfl (wpAny_pure ht))
  · refine wpAny_bind (wpAny_field hz rfl (x := rawInt T) rfl ?_)
    show wpAny _ _ (loadIfAlive ((T : Int).toNat) >>= _) _ _ _
    rw [Int.toNat_natCast]
    have al : ∀ {Q' : Option Obj → Shared → Prop}, Q' (s.heap.get? T) s → wpAny (model prog w) A (loadIfAlive T) Q' E s := fun h => fun _ _ _ => h
    refine wpAny_bind (al ?_)
    cases hg : s.heap.get? T with
    | none =>
      simp only [Option.isNone_none, if_true]
      exact wpAny_pure ht
    | some o =>
      simp only [Option.isNone_some, Bool.false_eq_true, if_false]
      refine wpAny_bind (wpAny_field hz rfl (x := .bool f1) rfl ?_)
      cases f1 with
      | true =>
        rw [if_neg (show ¬ ((Value.bool true != Value.bool true) = true) from Bool.false_ne_true)]
        exact wpAny_pure (hf s.heap hz (Heap.SameBut.refl _ _))
      | false =>
        rw [if_pos (show (Value.bool false != Value.bool true) = true from rfl)]
        exact wpAny_bind (wpAny_setField_rec hz (by simp) fun h₁ hz₁ hs₁ => wpAny_pure (hf h₁ hz₁ hs₁))
theorem pyIter_zipF {z TI TO : Addr} {f0 : Value} {f1 : Bool} {Q : Value → Shared → Prop} (hz : IsZipF s.heap z TI TO f0 f1) (h : Q (.ref z) s) : wpAny (model prog w) A (pyIter (.ref z)) Q E s := by
  have hT : s.TypeIs (.ref z) "zip" := ⟨_, hz, rfl⟩
  refine wpAny_pyIter_slot hT F.slot_zip_iter (wpAny_call_entry F.slot_zip_iter hT F.entry_zip_iter ?_ (F.args_zip_iter_1 _))
  show wpAny _ _ (ret (.ref z)) _ _ s
  exact wpAny_pure ⟨_, rfl, "zip", _, hT, F.slot_zip_next.lookup, h⟩
end
end Hs
namespace Hs
open PySem PySem.Spec PyProof.Rows L2
structure ZA2 (z TI TO i1 i2 l1 l2 : Addr) : Prop where
  TIz : TI ≠ z
  TOz : TO ≠ z
  TITO : TI ≠ TO
  i1z : i1 ≠ z
  TIi1 : TI ≠ i1
  TOi1 : TO ≠ i1
  i2z : i2 ≠ z
  TIi2 : TI ≠ i2
  TOi2 : TO ≠ i2
  i1i2 : i1 ≠ i2
  l1z : l1 ≠ z
  l1TO : l1 ≠ TO
  l1i1 : l1 ≠ i1
  l1i2 : l1 ≠ i2
  l2z : l2 ≠ z
  l2TO : l2 ≠ TO
  l2i1 : l2 ≠ i1
  l2i2 : l2 ≠ i2
section
variable {prog : Program} {w : World} {A : Around} {E : Value → Shared → Prop} {s : Shared}
theorem z2_next_item {z TI TO i1 i2 l1 l2 : Addr} {k : Nat} {xs1 xs2 : Array Value} {f0 : Value} {f1 : Bool} {arr : Array Value} {x1 x2 : Value} {Q : Value → Shared → Prop} (D : ZA2 z TI TO i1 i2 l1 l2) (hz : IsZipF s.heap z TI TO f0 f1) (hf0 : OwnF f0) (hTI : IsTupA s.heap TI #[.ref i1, .ref i2]) (hTO : IsTupA s.heap TO arr) (hsz : arr.size = 2) (h1 : s.heap.IsTupleIter i1 l1 k) (h2 : s.heap.IsTupleIter i2 l2 k) (hl1 : s.heap.IsTuple l1 xs1) (hl2 : s.heap.IsTuple l2 xs2) (hx1 : xs1[k]? = some x1) (hx2 : xs2[k]? = some x2)
    (hQ : ∀ h' f0' f1' arr', OwnF f0' → IsZipF h' z TI TO f0' f1' → IsTupA h' TO arr' → arr'.size = 2 → h'.IsTupleIter i1 l1 (k + 1) → h'.IsTupleIter i2 l2 (k + 1) → IsTupA h' s.heap.objs.size #[x1, x2] → h'.objs.size = s.heap.objs.size + 1 → (∀ c o, c ≠ z → c ≠ TO → c ≠ i1 → c ≠ i2 → s.heap.get? c = some o → h'.get? c = some o) → Q (.ref s.heap.objs.size) { s with heap := h' }) :
    wpAny (model prog w) A (Builtin.«zip.__next__» ⟨[.ref z], []⟩) (fun fin s' => ∃ v, fin = .done (.ret v) ∧ Q v s') E s := by
  show wpAny _ _ (field (.ref z) 2 >>= _) _ _ _
  refine wpAny_bind (wpAny_field hz rfl (x := .bool false) rfl ?_)
  show wpAny _ _ (field (.ref z) 3 >>= _) _ _ _
  refine wpAny_bind (wpAny_field hz rfl (x := .ref TI) rfl ?_)
  refine wpAny_bind (wpAny_seqItems hTI rfl ?_)
  show wpAny _ _ (Builtin.SmallTypes.ownedTupleIsFree (.ref z) >>= _) _ _ _
  refine wpAny_bind (owned_any hz hf0 ?_ fun h₁ hz₁ hs₁ => ?_)
  · simp only [if_true]
    refine wpAny_bind (wpAny_rule ?_)
    refine wpAny_bind (wpAny_field hz rfl (x := .ref TO) rfl ?_)
    refine wpAny_bind (wpAny_setField_rec hz (by simp) fun h₀ hz₀ hs₀ => ?_)
    replace hz₀ : IsZipF h₀ z TI TO .ellipsis f1 := hz₀
    have K0 : ∀ c o, c ≠ z → s.heap.get? c = some o → h₀.get? c = some o := fun c o c1 e => hs₀.extBut _ _ c1 e
    have N0 : h₀.objs.size = s.heap.objs.size := hs₀.1
    have T0 : IsTupA h₀ TO arr := K0 _ _ D.TOz hTO
    have J1_0 : h₀.IsTupleIter i1 l1 k := h1.at fun o e => K0 _ o D.i1z e
    have L1_0 : h₀.IsTuple l1 xs1 := hl1.at' fun o e => K0 _ o D.l1z e
    have J2_0 : h₀.IsTupleIter i2 l2 k := h2.at fun o e => K0 _ o D.i2z e
    have L2_0 : h₀.IsTuple l2 xs2 := hl2.at' fun o e => K0 _ o D.l2z e
    refine wpAny_bind ?_
    simp only [List.zipIdx_cons, List.zipIdx_nil, List.forIn_cons, List.forIn_nil]
    refine wpAny_bind (wpAny_bind (wpAny_onRaise ?_))
    show wpAny _ _ (Builtin.SmallTypes.nextOf (.ref i1) >>= _) _ _ _
    refine wpAny_bind (RZ.nextOf_tuple_item J1_0 L1_0 hx1 fun g1 m1 gs1 => wpAny_pure ?_)
    have V1 : IsTupA g1 TO (arr) := gs1.extBut _ _ D.TOi1 T0
    refine wpAny_bind (wpAny_seqItems V1 rfl ?_)
    refine wpAny_bind (upSeq V1 (by simp [hsz]) fun u1 T1 us1 => ?_)
    refine wpAny_bind (wpAny_letGo (wpAny_pure ?_))
    have J1_1 : u1.IsTupleIter i1 l1 (k + 1) := m1.extBut us1.extBut D.TOi1.symm
    have L1_1 : u1.IsTuple l1 xs1 := (L1_0.extBut gs1.extBut D.l1i1).extBut us1.extBut D.l1TO
    have J2_1 : u1.IsTupleIter i2 l2 k := (J2_0.extBut gs1.extBut D.i1i2.symm).extBut us1.extBut D.TOi2.symm
    have L2_1 : u1.IsTuple l2 xs2 := (L2_0.extBut gs1.extBut D.l2i1).extBut us1.extBut D.l2TO
    have K1 : ∀ c o, c ≠ z → c ≠ TO → c ≠ i1 → s.heap.get? c = some o → u1.get? c = some o := fun c o c1 c2 q1 e => us1.extBut _ _ c2 (gs1.extBut _ _ q1 (K0 c o c1  e))
    have Z1 : IsZipF u1 z TI TO .ellipsis f1 := us1.extBut _ _ D.TOz.symm (gs1.extBut _ _ D.i1z.symm hz₀)
    have N1 : u1.objs.size = s.heap.objs.size := by rw [us1.1, gs1.1, N0]
    refine wpAny_bind (wpAny_bind (wpAny_onRaise ?_))
    show wpAny _ _ (Builtin.SmallTypes.nextOf (.ref i2) >>= _) _ _ _
    refine wpAny_bind (RZ.nextOf_tuple_item J2_1 L2_1 hx2 fun g2 m2 gs2 => wpAny_pure ?_)
    have V2 : IsTupA g2 TO ((arr).setIfInBounds 0 x1) := gs2.extBut _ _ D.TOi2 T1
    refine wpAny_bind (wpAny_seqItems V2 rfl ?_)
    refine wpAny_bind (upSeq V2 (by simp [hsz]) fun u2 T2 us2 => ?_)
    refine wpAny_bind (wpAny_letGo (wpAny_pure ?_))
    have J1_2 : u2.IsTupleIter i1 l1 (k + 1) := (J1_1.extBut gs2.extBut D.i1i2).extBut us2.extBut D.TOi1.symm
    have L1_2 : u2.IsTuple l1 xs1 := (L1_1.extBut gs2.extBut D.l1i2).extBut us2.extBut D.l1TO
    have J2_2 : u2.IsTupleIter i2 l2 (k + 1) := m2.extBut us2.extBut D.TOi2.symm
    have L2_2 : u2.IsTuple l2 xs2 := (L2_1.extBut gs2.extBut D.l2i2).extBut us2.extBut D.l2TO
    have K2 : ∀ c o, c ≠ z → c ≠ TO → c ≠ i1 → c ≠ i2 → s.heap.get? c = some o → u2.get? c = some o := fun c o c1 c2 q1 q2 e => us2.extBut _ _ c2 (gs2.extBut _ _ q2 (K1 c o c1 c2 q1 e))
    have Z2 : IsZipF u2 z TI TO .ellipsis f1 := us2.extBut _ _ D.TOz.symm (gs2.extBut _ _ D.i2z.symm Z1)
    have N2 : u2.objs.size = s.heap.objs.size := by rw [us2.1, gs2.1, N1]
    refine wpAny_pure ?_
    refine wpAny_bind (wpAny_seqItems T2 rfl ?_)
    have ea : (((arr).setIfInBounds 0 x1).setIfInBounds 1 x2) = #[x1, x2] := set2 hsz
    rw [ea] at T2 ⊢
    refine wpAny_bind (wpAny_newTuple ?_)
    show wpAny _ _ (Builtin.SmallTypes.ownedTupleHandOut (.ref z) (.ref u2.objs.size) >>= _) _ _ _
    refine wpAny_bind ?_
    unfold Builtin.SmallTypes.ownedTupleHandOut
    have zlt : z < u2.objs.size := Heap.lt_size Z2
    have hz₆ : IsZipF (u2.push { cls := .type "tuple", data := .seq #[x1, x2] }) z TI TO .ellipsis f1 := Heap.get?_push_of_some _ Z2
    refine wpAny_bind (wpAny_setField_rec hz₆ (by simp) fun h₇ hz₇ hs₇ => ?_)
    replace hz₇ : IsZipF h₇ z TI TO (rawInt u2.objs.size) f1 := hz₇
    refine wpAny_setField_rec hz₇ (by simp) fun h₈ hz₈ hs₈ => ?_
    replace hz₈ : IsZipF h₈ z TI TO (rawInt u2.objs.size) false := hz₈
    have up : ∀ c o, c ≠ z → u2.get? c = some o → h₈.get? c = some o := fun c o c1 e => hs₈.extBut _ _ c1 (hs₇.extBut _ _ c1 (Heap.get?_push_of_some _ e))
    have hT₈ : IsTupA h₈ u2.objs.size #[x1, x2] := hs₈.extBut _ _ (Nat.ne_of_gt zlt) (hs₇.extBut _ _ (Nat.ne_of_gt zlt) (Heap.get?_push_size _ rfl))
    have hz8 : h₈.objs.size = u2.objs.size + 1 := by rw [hs₈.1, hs₇.1, Heap.size_push]
    refine wpAny_pure ⟨_, rfl, ?_⟩
    show Q (.ref u2.objs.size) _
    rw [N2] at hz₈ hT₈ hz8 ⊢
    exact hQ h₈ _ _ _ (.inr ⟨_, rfl⟩) hz₈ (up _ _ D.TOz T2) rfl (J1_2.at fun o e => up _ o D.i1z e) (J2_2.at fun o e => up _ o D.i2z e) hT₈ hz8 fun c o c1 c2 q1 q2 e => up c o c1 (K2 c o c1 c2 q1 q2 e)
  · simp only [Bool.false_eq_true, if_false]
    have K0 : ∀ c o, c ≠ z → s.heap.get? c = some o → h₁.get? c = some o := fun c o c1 e => hs₁.extBut _ _ c1 e
    have J1_0 : h₁.IsTupleIter i1 l1 k := h1.at fun o e => K0 _ o D.i1z e
    have L1_0 : h₁.IsTuple l1 xs1 := hl1.at' fun o e => K0 _ o D.l1z e
    have J2_0 : h₁.IsTupleIter i2 l2 k := h2.at fun o e => K0 _ o D.i2z e
    have L2_0 : h₁.IsTuple l2 xs2 := hl2.at' fun o e => K0 _ o D.l2z e
    refine wpAny_bind ?_
    rw [← Array.forIn_toList]
    simp only [List.forIn_cons, List.forIn_nil]
    refine wpAny_bind (wpAny_bind (wpAny_holding ?_))
    show wpAny _ _ (Builtin.SmallTypes.nextOf (.ref i1) >>= _) _ _ _
    refine wpAny_bind (RZ.nextOf_tuple_item (s := { s with heap := h₁ }) J1_0 L1_0 hx1 fun g1 m1 gs1 => wpAny_pure ?_)
    refine wpAny_pure ?_
    have J1_1 : g1.IsTupleIter i1 l1 (k + 1) := m1
    have L1_1 : g1.IsTuple l1 xs1 := L1_0.extBut gs1.extBut D.l1i1
    have J2_1 : g1.IsTupleIter i2 l2 k := J2_0.extBut gs1.extBut D.i1i2.symm
    have L2_1 : g1.IsTuple l2 xs2 := L2_0.extBut gs1.extBut D.l2i1
    refine wpAny_bind (wpAny_bind (wpAny_holding ?_))
    show wpAny _ _ (Builtin.SmallTypes.nextOf (.ref i2) >>= _) _ _ _
    refine wpAny_bind (RZ.nextOf_tuple_item (s := { s with heap := g1 }) J2_1 L2_1 hx2 fun g2 m2 gs2 => wpAny_pure ?_)
    refine wpAny_pure (wpAny_pure ?_)
    have J1_2 : g2.IsTupleIter i1 l1 (k + 1) := J1_1.extBut gs2.extBut D.i1i2
    have L1_2 : g2.IsTuple l1 xs1 := L1_1.extBut gs2.extBut D.l1i2
    have J2_2 : g2.IsTupleIter i2 l2 (k + 1) := m2
    have L2_2 : g2.IsTuple l2 xs2 := L2_1.extBut gs2.extBut D.l2i2
    show wpAny _ _ (newTuple [x1, x2] >>= _) _ _ _
    refine wpAny_bind (wpAny_newTuple ?_)
    have hsz' : g2.objs.size = s.heap.objs.size := by rw [gs2.1, gs1.1, hs₁.1]
    have hz3 : IsZipF g2 z TI TO f0 true := (gs2.extBut _ _ D.i2z.symm (gs1.extBut _ _ D.i1z.symm hz₁))
    have hk : ∀ c o, c ≠ z → c ≠ i1 → c ≠ i2 → s.heap.get? c = some o → g2.get? c = some o := fun c o c1 q1 q2 e => (gs2.extBut _ _ q2 (gs1.extBut _ _ q1 (K0 c o c1 e)))
    refine wpAny_pure ⟨_, rfl, ?_⟩
    show Q (.ref g2.objs.size) _
    have hp : IsTupA (g2.push { cls := .type "tuple", data := .seq #[x1, x2] }) g2.objs.size #[x1, x2] := Heap.get?_push_size _ rfl
    have hz4 : (g2.push { cls := .type "tuple", data := .seq #[x1, x2] }).objs.size = g2.objs.size + 1 := Heap.size_push ..
    rw [hsz'] at hp hz4 ⊢
    exact hQ _ _ _ _ hf0 (Heap.get?_push_of_some _ hz3) (Heap.get?_push_of_some _ (hk _ _ D.TOz D.TOi1 D.TOi2 hTO)) hsz (J1_2.at fun o e => Heap.get?_push_of_some _ e) (J2_2.at fun o e => Heap.get?_push_of_some _ e) hp hz4 fun c o c1 c2 q1 q2 e => Heap.get?_push_of_some _ (hk c o c1 q1 q2 e)
theorem z2_next_end {z TI TO i1 i2 l1 l2 : Addr} {k : Nat} {xs1 xs2 : Array Value} {f0 : Value} {f1 : Bool} {arr : Array Value} {Q : Fin → Shared → Prop} (hh : A.handled = none) (D : ZA2 z TI TO i1 i2 l1 l2) (hz : IsZipF s.heap z TI TO f0 f1) (hf0 : OwnF f0) (hTI : IsTupA s.heap TI #[.ref i1, .ref i2]) (hTO : IsTupA s.heap TO arr) (hsz : arr.size = 2) (h1 : s.heap.IsTupleIter i1 l1 k) (h2 : s.heap.IsTupleIter i2 l2 k) (hl1 : s.heap.IsTuple l1 xs1) (hl2 : s.heap.IsTuple l2 xs2) (hx : xs1[k]? = none)
    (hE : ∀ h' e, (∀ c o, c ≠ z → c ≠ TO → c ≠ i1 → c ≠ i2 → s.heap.get? c = some o → h'.get? c = some o) → (∃ o, h'.get? e = some o ∧ o.cls = .type "StopIteration") → E (.ref e) { s with heap := h' }) :
    wpAny (model prog w) A (Builtin.«zip.__next__» ⟨[.ref z], []⟩) Q E s := by
  show wpAny _ _ (field (.ref z) 2 >>= _) _ _ _
  refine wpAny_bind (wpAny_field hz rfl (x := .bool false) rfl ?_)
  show wpAny _ _ (field (.ref z) 3 >>= _) _ _ _
  refine wpAny_bind (wpAny_field hz rfl (x := .ref TI) rfl ?_)
  refine wpAny_bind (wpAny_seqItems hTI rfl ?_)
  show wpAny _ _ (Builtin.SmallTypes.ownedTupleIsFree (.ref z) >>= _) _ _ _
  refine wpAny_bind (owned_any hz hf0 ?_ fun h₁ hz₁ hs₁ => ?_)
  · simp only [if_true]
    refine wpAny_bind (wpAny_rule ?_)
    refine wpAny_bind (wpAny_field hz rfl (x := .ref TO) rfl ?_)
    refine wpAny_bind (wpAny_setField_rec hz (by simp) fun h₀ hz₀ hs₀ => ?_)
    replace hz₀ : IsZipF h₀ z TI TO .ellipsis f1 := hz₀
    refine wpAny_bind ?_
    simp only [List.zipIdx_cons, List.zipIdx_nil, List.forIn_cons, List.forIn_nil]
    refine wpAny_bind (wpAny_bind (wpAny_onRaise ?_))
    show wpAny _ _ (Builtin.SmallTypes.nextOf (.ref i1) >>= _) _ _ _
    refine wpAny_bind (RZ.nextOf_tuple_end hh (h1.extBut hs₀.extBut D.i1z) (hl1.extBut hs₀.extBut D.l1z) hx fun h₂ e hs₂ he => ?_)
    obtain ⟨oe, hoe, hce⟩ := he
    have hz₂ : IsZipF h₂ z TI TO .ellipsis f1 := hs₂ _ _ D.i1z.symm hz₀
    have hez : e ≠ z := fun x => by subst x; rw [hz₂] at hoe; cases hoe; simp at hce
    refine wpAny_setField_rec hz₂ (by simp) fun h₃ _ hs₃ => hE h₃ e (fun c o c1 _ c3 _ x => hs₃.extBut _ _ c1 (hs₂ _ _ c3 (hs₀.extBut _ _ c1 x))) ⟨oe, hs₃.extBut _ _ hez hoe, hce⟩
  · simp only [Bool.false_eq_true, if_false]
    refine wpAny_bind ?_
    rw [← Array.forIn_toList]
    simp only [List.forIn_cons, List.forIn_nil]
    refine wpAny_bind (wpAny_bind (wpAny_holding ?_))
    show wpAny _ _ (Builtin.SmallTypes.nextOf (.ref i1) >>= _) _ _ _
    refine wpAny_bind (RZ.nextOf_tuple_end (s := { s with heap := h₁ }) hh (h1.extBut hs₁.extBut D.i1z) (hl1.extBut hs₁.extBut D.l1z) hx fun h₂ e hs₂ he => ?_)
    exact hE h₂ e (fun c o c1 _ c3 _ x => hs₂ _ _ c3 (hs₁.extBut _ _ c1 x)) he
theorem z2_pyNext_item {z TI TO i1 i2 l1 l2 : Addr} {k : Nat} {xs1 xs2 : Array Value} {f0 : Value} {f1 : Bool} {arr : Array Value} {x1 x2 : Value} {Q : Option Value → Shared → Prop} (D : ZA2 z TI TO i1 i2 l1 l2) (hz : IsZipF s.heap z TI TO f0 f1) (hf0 : OwnF f0) (hTI : IsTupA s.heap TI #[.ref i1, .ref i2]) (hTO : IsTupA s.heap TO arr) (hsz : arr.size = 2) (h1 : s.heap.IsTupleIter i1 l1 k) (h2 : s.heap.IsTupleIter i2 l2 k) (hl1 : s.heap.IsTuple l1 xs1) (hl2 : s.heap.IsTuple l2 xs2) (hx1 : xs1[k]? = some x1) (hx2 : xs2[k]? = some x2)
    (hQ : ∀ h' f0' f1' arr', OwnF f0' → IsZipF h' z TI TO f0' f1' → IsTupA h' TO arr' → arr'.size = 2 → h'.IsTupleIter i1 l1 (k + 1) → h'.IsTupleIter i2 l2 (k + 1) → IsTupA h' s.heap.objs.size #[x1, x2] → h'.objs.size = s.heap.objs.size + 1 → (∀ c o, c ≠ z → c ≠ TO → c ≠ i1 → c ≠ i2 → s.heap.get? c = some o → h'.get? c = some o) → Q (some (.ref s.heap.objs.size)) { s with heap := h' }) : wpAny (model prog w) A (pyNext (.ref z)) Q E s := by
  have hT : s.TypeIs (.ref z) "zip" := ⟨_, hz, rfl⟩
  unfold pyNext
  exact wpAny_bind (wpAny_attempt (wpAny_callSpecial?_slot (name := Str.ofString "__next__") hT F.slot_zip_next
    (wpAny_call_entry F.slot_zip_next hT F.entry_zip_next
      (z2_next_item D hz hf0 hTI hTO hsz h1 h2 hl1 hl2 hx1 hx2 fun h' b0 b1 b2 b3 b4 b5 b6 b7 b8 b9 b10 b11 => wpAny_pure (hQ h' b0 b1 b2 b3 b4 b5 b6 b7 b8 b9 b10 b11)) (F.args_zip_next_1 _))))
theorem z2_pyNext_end {z TI TO i1 i2 l1 l2 : Addr} {k : Nat} {xs1 xs2 : Array Value} {f0 : Value} {f1 : Bool} {arr : Array Value} {Q : Option Value → Shared → Prop} (hh : A.handled = none) (D : ZA2 z TI TO i1 i2 l1 l2) (hz : IsZipF s.heap z TI TO f0 f1) (hf0 : OwnF f0) (hTI : IsTupA s.heap TI #[.ref i1, .ref i2]) (hTO : IsTupA s.heap TO arr) (hsz : arr.size = 2) (h1 : s.heap.IsTupleIter i1 l1 k) (h2 : s.heap.IsTupleIter i2 l2 k) (hl1 : s.heap.IsTuple l1 xs1) (hl2 : s.heap.IsTuple l2 xs2) (hx : xs1[k]? = none)
    (hQ : ∀ h', (∀ c o, c ≠ z → c ≠ TO → c ≠ i1 → c ≠ i2 → s.heap.get? c = some o → h'.get? c = some o) → Q none { s with heap := h' }) : wpAny (model prog w) A (pyNext (.ref z)) Q E s := by
  have hT : s.TypeIs (.ref z) "zip" := ⟨_, hz, rfl⟩
  unfold pyNext
  refine wpAny_bind (wpAny_attempt (wpAny_callSpecial?_slot (name := Str.ofString "__next__") hT F.slot_zip_next
    (wpAny_call_entry F.slot_zip_next hT F.entry_zip_next (z2_next_end hh D hz hf0 hTI hTO hsz h1 h2 hl1 hl2 hx fun h' e hk he => ?_) (F.args_zip_next_1 _))))
  obtain ⟨o, ho, hc⟩ := he
  refine wpAny_bind (wpAny_isInstance (T := "StopIteration") (b := true) ⟨o, ho, hc⟩ isSubtype_stop ?_)
  exact wpAny_pure (hQ _ hk)
end
abbrev zt2H1 (h : Heap) (l1 : Addr) : Heap := h.push { cls := .type "tuple_iterator", data := .fields #[.ref l1, .int 0 0] }
abbrev zt2H2 (h : Heap) (l1 l2 : Addr) : Heap := (zt2H1 h l1).push { cls := .type "tuple_iterator", data := .fields #[.ref l2, .int 0 0] }
abbrev zt2TI (h : Heap) (l1 l2 : Addr) : Heap := (zt2H2 h l1 l2).push { cls := .type "tuple", data := .seq #[.ref h.objs.size, .ref (zt2H1 h l1).objs.size] }
abbrev zt2TO (h : Heap) (l1 l2 : Addr) : Heap := (zt2TI h l1 l2).push { cls := .type "tuple", data := .seq #[.none, .none] }
abbrev zt2Z (h : Heap) (l1 l2 : Addr) : Heap := (zt2TO h l1 l2).push { cls := .type "zip", data := .fields #[.none, .bool false, .bool false, .ref (zt2H2 h l1 l2).objs.size, .ref (zt2TI h l1 l2).objs.size] }
theorem meets_z2_new (l1 l2 : Addr) (xs1 xs2 : Array Value) :
    Meets (Builtin.«zip.__new__» ⟨[.type "zip", .ref l1, .ref l2], []⟩) (fun _ R s => s.heap.IsTuple l1 xs1 ∧ s.heap.IsTuple l2 xs2 ∧
      R (.ok (.ret (.ref (zt2TO s.heap l1 l2).objs.size))) { s with heap := zt2Z s.heap l1 l2 }) :=
  .of_wp fun prog w A R s h => by
    obtain ⟨hp, g, d, tk, os⟩ := s; obtain ⟨hl1, hl2, h⟩ := h
    have hsub := sub_zip
    have hL1 : Heap.IsTuple (Shared.heap ⟨hp, g, d, tk, os⟩) l1 xs1 := hl1
    have hL2 : Heap.IsTuple (Shared.heap ⟨(zt2H1 hp l1), g, d, tk, os⟩) l2 xs2 := Heap.IsTuple.push (hl2) _
    wp_walk using wpAny_pyIter_tuple hL1, wpAny_pyIter_tuple hL2
    exact ⟨_, rfl, h⟩
section
variable {prog : Program} {w : World} {A : Around} {E : Value → Shared → Prop} {s : Shared}
theorem call_z2 {l1 l2 : Addr} {xs1 xs2 : Array Value} {Q : Value → Shared → Prop} (hl1 : s.heap.IsTuple l1 xs1) (hl2 : s.heap.IsTuple l2 xs2)
    (h : ∀ h', IsZipF h' (s.heap.objs.size + 4) (s.heap.objs.size + 2) (s.heap.objs.size + 3) .none false → IsTupA h' (s.heap.objs.size + 2) #[.ref s.heap.objs.size, .ref (s.heap.objs.size + 1)] → IsTupA h' (s.heap.objs.size + 3) #[.none, .none] → h'.IsTupleIter s.heap.objs.size l1 0 → h'.IsTupleIter (s.heap.objs.size + 1) l2 0 → h'.objs.size = (s.heap.objs.size + 5) → (∀ c o, s.heap.get? c = some o → h'.get? c = some o) → Q (.ref (s.heap.objs.size + 4)) { s with heap := h' }) :
    wpAny (model prog w) A (call (.type "zip") [.ref l1, .ref l2]) Q E s := by
  refine callType_new F.called_zip (by decide) (F.typeCall_zip_2 _ _) (F.newCall_zip_2 _ _) (fun obj => F.args_object_init_3 obj _ _) F.entry_zip_new (meets_z2_new l1 l2 xs1 xs2) ⟨hl1, hl2, ?_⟩
  have z1 : (zt2H1 s.heap l1).objs.size = (s.heap.objs.size + 1) := Heap.size_push ..
  have z2 : (zt2H2 s.heap l1 l2).objs.size = (s.heap.objs.size + 2) := by rw [Heap.size_push, z1]
  have z3 : (zt2TI s.heap l1 l2).objs.size = (s.heap.objs.size + 3) := by rw [Heap.size_push, z2]
  have z4 : (zt2TO s.heap l1 l2).objs.size = (s.heap.objs.size + 4) := by rw [Heap.size_push, z3]
  have z5 : (zt2Z s.heap l1 l2).objs.size = (s.heap.objs.size + 5) := by rw [Heap.size_push, z4]
  have g0 : (zt2Z s.heap l1 l2).get? s.heap.objs.size = some _ := Heap.get?_push_of_some _ (Heap.get?_push_of_some _ (Heap.get?_push_of_some _ (Heap.get?_push_of_some _ (Heap.get?_push_size _ rfl))))
  have g1 : (zt2Z s.heap l1 l2).get? (zt2H1 s.heap l1).objs.size = some _ := Heap.get?_push_of_some _ (Heap.get?_push_of_some _ (Heap.get?_push_of_some _ (Heap.get?_push_size _ rfl)))
  have g2 : (zt2Z s.heap l1 l2).get? (zt2H2 s.heap l1 l2).objs.size = some _ := Heap.get?_push_of_some _ (Heap.get?_push_of_some _ (Heap.get?_push_size _ rfl))
  have g3 : (zt2Z s.heap l1 l2).get? (zt2TI s.heap l1 l2).objs.size = some _ := Heap.get?_push_of_some _ (Heap.get?_push_size _ rfl)
  have g4 : (zt2Z s.heap l1 l2).get? (zt2TO s.heap l1 l2).objs.size = some _ := Heap.get?_push_size _ rfl
  show _ ∧ _
  rw [z2, z3, z4] at g4
  rw [z1, z2] at g2
  rw [z3] at g3
  rw [z1] at g1
  rw [z4]
  exact ⟨⟨_, g4, rfl⟩, h _ g4 g2 g3 ⟨_, g0, rfl, rfl⟩ ⟨_, g1, rfl, rfl⟩ z5 fun c o x => Heap.get?_push_of_some _ (Heap.get?_push_of_some _ (Heap.get?_push_of_some _ (Heap.get?_push_of_some _ (Heap.get?_push_of_some _ (x)))))⟩
end
/-- the 2 tuples as they stand at each turn, the items in a new tuple -/
def ItS2 (K : PySem.W.Frag) (a1 a2 : Addr) : It :=
  ⟨fun i H => ∃ (xs1 xs2 : List V) (x1 x2 : V), SqT K H a1 xs1 ∧ SqT K H a2 xs2 ∧ xs1[i]? = some x1 ∧ xs2[i]? = some x2,
    fun i H v H' => ∃ T x1 x2, v = .ref T ∧ H T = none ∧ H' = upd H T (.tup [x1, x2]) ∧ (∀ ys, SqT K H a1 ys → ys[i]? = some x1) ∧ (∀ ys, SqT K H a2 ys → ys[i]? = some x2),
    fun i H => ∃ (xs1 xs2 : List V), SqT K H a1 xs1 ∧ SqT K H a2 xs2 ∧ xs1.length ≤ i⟩
theorem turn_S2 {P : Program} {w : World} {K : PySem.W.Frag} {nm : Str} {tpos : Pos} {z TI TO i1 i2 a1 a2 : Addr} (D : ZA2 z TI TO i1 i2 a1 a2) : Turn P w K (.Name nm tpos) (ItS2 K a1 a2) [z, TI, TO, i1, i2] z (fun i h => ∃ f0 f1 arr, OwnF f0 ∧ IsZipF h z TI TO f0 f1 ∧ IsTupA h TI #[.ref i1, .ref i2] ∧ IsTupA h TO arr ∧ arr.size = 2 ∧ h.IsTupleIter i1 a1 i ∧ h.IsTupleIter i2 a2 i) where
  mem := by simp
  obj := fun i h st c hc => by
    obtain ⟨f0, f1, arr, hf0, hz, hTI, hTO, hsz, ⟨o1, e1, _, d1⟩, ⟨o2, e2, _, d2⟩⟩ := st
    have e' : c = z ∨ c = TI ∨ c = TO ∨ c = i1 ∨ c = i2 := by simpa using hc
    rcases e' with q | q | q | q | q
    · rw [q]; exact ⟨_, hz, fun v q => nomatch q⟩
    · rw [q]; exact ⟨_, hTI, fun v q => nomatch q⟩
    · rw [q]; exact ⟨_, hTO, fun v q => nomatch q⟩
    · rw [q]; exact ⟨o1, e1, fun v q => by rw [d1] at q; cases q⟩
    · rw [q]; exact ⟨o2, e2, fun v q => by rw [d2] at q; cases q⟩
  keep := fun i h h' st k => by
    obtain ⟨f0, f1, arr, hf0, hz, hTI, hTO, hsz, h1, h2⟩ := st
    exact ⟨f0, f1, arr, hf0, k z (by simp) _ hz, k TI (by simp) _ hTI, k TO (by simp) _ hTO, hsz, h1.at fun o q => k i1 (by simp) o q, h2.at fun o q => k i2 (by simp) o q⟩
  item := by
    intro X hP hw hK hc i pins s σ H E I hf st hg
    subst hP hw hK
    obtain ⟨f0, f1, arr, hf0, hz, hTI, hTO, hsz, h1, h2⟩ := st
    obtain ⟨xs1, xs2, x1, x2, hq1, hq2, hx1, hx2⟩ := hg
    obtain ⟨its1, rv1, p1, _⟩ := I.tuple hq1
    obtain ⟨w1, hw1, rw1⟩ := rv1.get hx1
    obtain ⟨its2, rv2, p2, _⟩ := I.tuple hq2
    obtain ⟨w2, hw2, rw2⟩ := rv2.get hx2
    have hzl : z < s.heap.objs.size := Heap.lt_size hz
    refine z2_pyNext_item D hz hf0 hTI hTO hsz h1 h2 p1 p2 (by simpa using hw1) (by simpa using hw2) fun h' f0' f1' arr' hf0' hz' TO' hsz' h1' h2' hT hsz2 hk => ?_
    refine ⟨_, rfl, wpAny_pure ?_⟩
    have new : ObjOk X.prog X.w (upd H s.heap.objs.size (.tup [x1, x2])) h' s.heap.objs.size (.tup [x1, x2]) := ⟨by show 2 ≤ sizeLine; decide, [w1, w2], .cons rw1 (.cons rw2 (.nil)), ⟨_, hT, rfl, _, rfl⟩⟩
    have I1 : Inv X pins σ (upd H s.heap.objs.size (.tup [x1, x2])) { s with heap := h' } :=
      I.turnedNew (t' := s.toks) (ch := [z, TI, TO, i1, i2]) (fun c o hb q => hk c o (fun q' => hb (by simp [q'])) (fun q' => hb (by simp [q'])) (fun q' => hb (by simp [q'])) (fun q' => hb (by simp [q'])) q) hf (Nat.le_refl _) new
    refine ⟨.ref s.heap.objs.size, _, I1, rfl, ⟨_, x1, x2, rfl, I.hok.fresh (Nat.le_refl _), rfl, fun l hl => by rw [I.tuple_inj hl hq1]; exact hx1, fun l hl => by rw [I.tuple_inj hl hq2]; exact hx2⟩, ⟨f0', f1', arr', hf0', hz', ?_, TO', hsz', h1', h2'⟩, fun c hcm => ?_⟩
    · exact hk _ _ D.TIz D.TITO D.TIi1 D.TIi2 hTI
    · have hlt : c < s.heap.objs.size := by
        have e' : c = z ∨ c = TI ∨ c = TO ∨ c = i1 ∨ c = i2 := by simpa using hcm
        rcases e' with q | q | q | q | q
        · rw [q]; exact hzl
        · rw [q]; exact Heap.lt_size hTI
        · rw [q]; exact Heap.lt_size hTO
        · rw [q]; obtain ⟨_, e1, _⟩ := h1; exact Heap.lt_size e1
        · rw [q]; obtain ⟨_, e1, _⟩ := h2; exact Heap.lt_size e1
      rw [upd_ne (Nat.ne_of_lt hlt)]
      exact (hf c hcm).1
  done := by
    intro X hP hw hK hc i pins s σ H E I hf st hg
    subst hP hw hK
    obtain ⟨f0, f1, arr, hf0, hz, hTI, hTO, hsz, h1, h2⟩ := st
    obtain ⟨xs1, xs2, hq1, hq2, hend⟩ := hg
    obtain ⟨its1, rv1, p1, _⟩ := I.tuple hq1
    obtain ⟨its2, rv2, p2, _⟩ := I.tuple hq2
    have l1 := rv1.length
    exact z2_pyNext_end (I.ok.hd hc) D hz hf0 hTI hTO hsz h1 h2 p1 p2 (by simp; omega) fun h' hk => ⟨rfl, I.turnedL (t' := s.toks) (ch := [z, TI, TO, i1, i2]) (fun c o hb q => hk c o (fun q' => hb (by simp [q'])) (fun q' => hb (by simp [q'])) (fun q' => hb (by simp [q'])) (fun q' => hb (by simp [q'])) q) hf⟩
  self := fun A i s Q E st h => by
    obtain ⟨f0, f1, arr, hf0, hz, _⟩ := st
    exact pyIter_zipF hz h
end Hs
namespace Hs
open PySem PySem.Spec PyProof.Rows L2

/-- zip(*rows), a call by a star alone -/
theorem callWith_starT {M : Model} {A : Around} {E : Value → Shared → Prop} {s : Shared} {env : Env} {pos p : Pos} {T : String} {e : Expr} {Q : Value → Shared → Prop} (h : wpAny M A (eval e env) (fun v s₁ => PySem.W.StarOf M A E v (fun vs s₂ => wpAny M A (call (.type T) vs) Q E s₂) s₁) E s)
    (he : starEach [.Starred e p] env = [(true, eval e env)] := by rfl) : wpAny M A (callWith pos (.type T) [] (backTo pos (starEach [.Starred e p] env)) []) Q E s := by
  rw [he]
  refine PySem.W.ks_call (P := fun _ => True) rfl (fun h _ => ⟨.machine, .inr (.inl rfl), ?_⟩) (PySem.W.ks_lone (wpAny_mono h (fun v s₁ h₁ => ?_) fun _ _ x => x))
  · exact PySem.W.Looks.now
  · unfold PySem.W.StarOf at h₁ ⊢
    refine wpAny_mono h₁ (fun b s₂ h₂ => ⟨h₂.1, wpAny_mono h₂.2 (fun vs s₃ h₃ => ⟨trivial, h₃⟩) fun _ _ x => x⟩) fun _ _ x => x
theorem neA {a b : Nat} (h : a ≠ b) : (a : Addr) ≠ (b : Addr) := h

theorem vals_refs2 {a1 a2 : Addr} {us : List Value} (r : Vals [.ref a1, .ref a2] us) : us = [.ref a1, .ref a2] := by
  cases r with
  | cons q r =>
    cases q
    cases r with
    | cons q r =>
      cases q
      cases r
      rfl
theorem apart2 (I a1 a2 : Nat) (h1 : a1 < I) (h2 : a2 < I) : ZA2 (I + 4) (I + 2) (I + 3) I (I + 1) a1 a2 := by
  constructor <;> (refine neA ?_; omega)

def iZipS2 (K : PySem.W.Frag) (te : TE) : TI := fun σ H R => te σ H fun v H1 => ∃ (l a1 a2 : Addr) (xs1 xs2 : List V), v = .ref l ∧ SqL K H1 l [.ref a1, .ref a2] ∧ SqT K H1 a1 xs1 ∧ SqT K H1 a2 xs2 ∧ R (ItS2 K a1 a2) H1
theorem pi_zipS2 {X : Cx} {e : Expr} {te : TE} {p sp pos tpos : Pos} {nm : Str} (hg : Gl X "zip") (hm : X.mg "zip" = none) (he : PE X e te) (hs : starEach [.Starred e sp] X.env = [(true, eval e X.env)] := by rfl) : PI X (.Name nm tpos) (.Call (.Name "zip" p) [.Starred e sp] [] pos) (iZipS2 X.K te) := by
  refine ⟨fun pins s σ H R I h => ?_⟩
  refine Call_ (ld_blt I hg hm PyProof.Rows.boot_zip (callWith_starT (thn (he.run pins s σ H _ I h) fun v s0 ⟨y, H1, I0, ry, l, a1, a2, xs1, xs2, ey, hl, hq1, hq2, q⟩ => ?_) hs))
  subst ey
  obtain rfl : v = Value.ref l := ry
  refine StX.star_lst I0 hl fun us s1 I1 rv => ?_
  obtain rfl : us = [.ref a1, .ref a2] := vals_refs2 rv
  obtain ⟨its1, rv1, p1, _⟩ := I1.tuple hq1
  obtain ⟨o1, ho1, _⟩ := id p1
  obtain ⟨its2, rv2, p2, _⟩ := I1.tuple hq2
  obtain ⟨o2, ho2, _⟩ := id p2
  refine call_z2 (show s1.heap.IsTuple a1 its1.toArray from p1) (show s1.heap.IsTuple a2 its2.toArray from p2) fun h' hz hTI hTO h1 h2 hsz hk => pyIter_zipF hz ?_
  have I2 : Inv X pins σ H1 { s1 with heap := h' } := I1.kept (t' := s1.toks) hk
  refine ⟨s1.heap.objs.size + 4, [s1.heap.objs.size + 4, s1.heap.objs.size + 2, s1.heap.objs.size + 3, s1.heap.objs.size, s1.heap.objs.size + 1], _, _, H1, rfl, I2, turn_S2 (apart2 s1.heap.objs.size a1 a2 (Heap.lt_size ho1) (Heap.lt_size ho2)), ⟨_, _, _, .inl rfl, hz, hTI, hTO, rfl, h1, h2⟩, fun c hcm => ?_, q⟩
  have hle : s1.heap.objs.size ≤ c := by
    simp only [List.mem_cons, List.not_mem_nil, or_false] at hcm
    rcases hcm with rfl | rfl | rfl | rfl | rfl <;> first | exact Nat.le_refl _ | exact Nat.le_add_right _ _
  exact I1.fpOk hle (I1.hok.fresh hle)

end Hs
namespace Hs
open PySem PySem.Spec PyProof.Rows L2
/-! ### for a, b in zip(list, tuple) -/
section
variable {prog : Program} {w : World} {A : Around} {E : Value → Shared → Prop} {s : Shared}
theorem zm_next_item {z TI TO i1 i2 l1 l2 : Addr} {k : Nat} {xs1 xs2 : Array Value} {f0 : Value} {f1 : Bool} {arr : Array Value} {x1 x2 : Value} {Q : Value → Shared → Prop} (D : ZA2 z TI TO i1 i2 l1 l2) (hz : IsZipF s.heap z TI TO f0 f1) (hf0 : OwnF f0) (hTI : IsTupA s.heap TI #[.ref i1, .ref i2]) (hTO : IsTupA s.heap TO arr) (hsz : arr.size = 2) (h1 : s.heap.IsListIter i1 l1 k) (h2 : s.heap.IsTupleIter i2 l2 k) (hl1 : s.heap.IsList l1 xs1) (hl2 : s.heap.IsTuple l2 xs2) (hx1 : xs1[k]? = some x1) (hx2 : xs2[k]? = some x2)
    (hQ : ∀ h' f0' f1' arr', OwnF f0' → IsZipF h' z TI TO f0' f1' → IsTupA h' TO arr' → arr'.size = 2 → h'.IsListIter i1 l1 (k + 1) → h'.IsTupleIter i2 l2 (k + 1) → IsTupA h' s.heap.objs.size #[x1, x2] → h'.objs.size = s.heap.objs.size + 1 → (∀ c o, c ≠ z → c ≠ TO → c ≠ i1 → c ≠ i2 → s.heap.get? c = some o → h'.get? c = some o) → Q (.ref s.heap.objs.size) { s with heap := h' }) :
    wpAny (model prog w) A (Builtin.«zip.__next__» ⟨[.ref z], []⟩) (fun fin s' => ∃ v, fin = .done (.ret v) ∧ Q v s') E s := by
  show wpAny _ _ (field (.ref z) 2 >>= _) _ _ _
  refine wpAny_bind (wpAny_field hz rfl (x := .bool false) rfl ?_)
  show wpAny _ _ (field (.ref z) 3 >>= _) _ _ _
  refine wpAny_bind (wpAny_field hz rfl (x := .ref TI) rfl ?_)
  refine wpAny_bind (wpAny_seqItems hTI rfl ?_)
  show wpAny _ _ (Builtin.SmallTypes.ownedTupleIsFree (.ref z) >>= _) _ _ _
  refine wpAny_bind (owned_any hz hf0 ?_ fun h₁ hz₁ hs₁ => ?_)
  · simp only [if_true]
    refine wpAny_bind (wpAny_rule ?_)
    refine wpAny_bind (wpAny_field hz rfl (x := .ref TO) rfl ?_)
    refine wpAny_bind (wpAny_setField_rec hz (by simp) fun h₀ hz₀ hs₀ => ?_)
    replace hz₀ : IsZipF h₀ z TI TO .ellipsis f1 := hz₀
    have K0 : ∀ c o, c ≠ z → s.heap.get? c = some o → h₀.get? c = some o := fun c o c1 e => hs₀.extBut _ _ c1 e
    have N0 : h₀.objs.size = s.heap.objs.size := hs₀.1
    have T0 : IsTupA h₀ TO arr := K0 _ _ D.TOz hTO
    have J1_0 : h₀.IsListIter i1 l1 k := h1.at fun o e => K0 _ o D.i1z e
    have L1_0 : h₀.IsList l1 xs1 := hl1.at fun o e => K0 _ o D.l1z e
    have J2_0 : h₀.IsTupleIter i2 l2 k := h2.at fun o e => K0 _ o D.i2z e
    have L2_0 : h₀.IsTuple l2 xs2 := hl2.at' fun o e => K0 _ o D.l2z e
    refine wpAny_bind ?_
    simp only [List.zipIdx_cons, List.zipIdx_nil, List.forIn_cons, List.forIn_nil]
    refine wpAny_bind (wpAny_bind (wpAny_onRaise ?_))
    show wpAny _ _ (Builtin.SmallTypes.nextOf (.ref i1) >>= _) _ _ _
    refine wpAny_bind (wpAny_nextOf_list_item J1_0 L1_0 hx1 fun g1 m1 gs1 => wpAny_pure ?_)
    have V1 : IsTupA g1 TO (arr) := gs1.extBut _ _ D.TOi1 T0
    refine wpAny_bind (wpAny_seqItems V1 rfl ?_)
    refine wpAny_bind (upSeq V1 (by simp [hsz]) fun u1 T1 us1 => ?_)
    refine wpAny_bind (wpAny_letGo (wpAny_pure ?_))
    have J1_1 : u1.IsListIter i1 l1 (k + 1) := m1.extBut us1.extBut D.TOi1.symm
    have L1_1 : u1.IsList l1 xs1 := (L1_0.extBut gs1.extBut D.l1i1).extBut us1.extBut D.l1TO
    have J2_1 : u1.IsTupleIter i2 l2 k := (J2_0.extBut gs1.extBut D.i1i2.symm).extBut us1.extBut D.TOi2.symm
    have L2_1 : u1.IsTuple l2 xs2 := (L2_0.extBut gs1.extBut D.l2i1).extBut us1.extBut D.l2TO
    have K1 : ∀ c o, c ≠ z → c ≠ TO → c ≠ i1 → s.heap.get? c = some o → u1.get? c = some o := fun c o c1 c2 q1 e => us1.extBut _ _ c2 (gs1.extBut _ _ q1 (K0 c o c1  e))
    have Z1 : IsZipF u1 z TI TO .ellipsis f1 := us1.extBut _ _ D.TOz.symm (gs1.extBut _ _ D.i1z.symm hz₀)
    have N1 : u1.objs.size = s.heap.objs.size := by rw [us1.1, gs1.1, N0]
    refine wpAny_bind (wpAny_bind (wpAny_onRaise ?_))
    show wpAny _ _ (Builtin.SmallTypes.nextOf (.ref i2) >>= _) _ _ _
    refine wpAny_bind (RZ.nextOf_tuple_item J2_1 L2_1 hx2 fun g2 m2 gs2 => wpAny_pure ?_)
    have V2 : IsTupA g2 TO ((arr).setIfInBounds 0 x1) := gs2.extBut _ _ D.TOi2 T1
    refine wpAny_bind (wpAny_seqItems V2 rfl ?_)
    refine wpAny_bind (upSeq V2 (by simp [hsz]) fun u2 T2 us2 => ?_)
    refine wpAny_bind (wpAny_letGo (wpAny_pure ?_))
    have J1_2 : u2.IsListIter i1 l1 (k + 1) := (J1_1.extBut gs2.extBut D.i1i2).extBut us2.extBut D.TOi1.symm
    have L1_2 : u2.IsList l1 xs1 := (L1_1.extBut gs2.extBut D.l1i2).extBut us2.extBut D.l1TO
    have J2_2 : u2.IsTupleIter i2 l2 (k + 1) := m2.extBut us2.extBut D.TOi2.symm
    have L2_2 : u2.IsTuple l2 xs2 := (L2_1.extBut gs2.extBut D.l2i2).extBut us2.extBut D.l2TO
    have K2 : ∀ c o, c ≠ z → c ≠ TO → c ≠ i1 → c ≠ i2 → s.heap.get? c = some o → u2.get? c = some o := fun c o c1 c2 q1 q2 e => us2.extBut _ _ c2 (gs2.extBut _ _ q2 (K1 c o c1 c2 q1 e))
    have Z2 : IsZipF u2 z TI TO .ellipsis f1 := us2.extBut _ _ D.TOz.symm (gs2.extBut _ _ D.i2z.symm Z1)
    have N2 : u2.objs.size = s.heap.objs.size := by rw [us2.1, gs2.1, N1]
    refine wpAny_pure ?_
    refine wpAny_bind (wpAny_seqItems T2 rfl ?_)
    have ea : (((arr).setIfInBounds 0 x1).setIfInBounds 1 x2) = #[x1, x2] := set2 hsz
    rw [ea] at T2 ⊢
    refine wpAny_bind (wpAny_newTuple ?_)
    show wpAny _ _ (Builtin.SmallTypes.ownedTupleHandOut (.ref z) (.ref u2.objs.size) >>= _) _ _ _
    refine wpAny_bind ?_
    unfold Builtin.SmallTypes.ownedTupleHandOut
    have zlt : z < u2.objs.size := Heap.lt_size Z2
    have hz₆ : IsZipF (u2.push { cls := .type "tuple", data := .seq #[x1, x2] }) z TI TO .ellipsis f1 := Heap.get?_push_of_some _ Z2
    refine wpAny_bind (wpAny_setField_rec hz₆ (by simp) fun h₇ hz₇ hs₇ => ?_)
    replace hz₇ : IsZipF h₇ z TI TO (rawInt u2.objs.size) f1 := hz₇
    refine wpAny_setField_rec hz₇ (by simp) fun h₈ hz₈ hs₈ => ?_
    replace hz₈ : IsZipF h₈ z TI TO (rawInt u2.objs.size) false := hz₈
    have up : ∀ c o, c ≠ z → u2.get? c = some o → h₈.get? c = some o := fun c o c1 e => hs₈.extBut _ _ c1 (hs₇.extBut _ _ c1 (Heap.get?_push_of_some _ e))
    have hT₈ : IsTupA h₈ u2.objs.size #[x1, x2] := hs₈.extBut _ _ (Nat.ne_of_gt zlt) (hs₇.extBut _ _ (Nat.ne_of_gt zlt) (Heap.get?_push_size _ rfl))
    have hz8 : h₈.objs.size = u2.objs.size + 1 := by rw [hs₈.1, hs₇.1, Heap.size_push]
    refine wpAny_pure ⟨_, rfl, ?_⟩
    show Q (.ref u2.objs.size) _
    rw [N2] at hz₈ hT₈ hz8 ⊢
    exact hQ h₈ _ _ _ (.inr ⟨_, rfl⟩) hz₈ (up _ _ D.TOz T2) rfl (J1_2.at fun o e => up _ o D.i1z e) (J2_2.at fun o e => up _ o D.i2z e) hT₈ hz8 fun c o c1 c2 q1 q2 e => up c o c1 (K2 c o c1 c2 q1 q2 e)
  · simp only [Bool.false_eq_true, if_false]
    have K0 : ∀ c o, c ≠ z → s.heap.get? c = some o → h₁.get? c = some o := fun c o c1 e => hs₁.extBut _ _ c1 e
    have J1_0 : h₁.IsListIter i1 l1 k := h1.at fun o e => K0 _ o D.i1z e
    have L1_0 : h₁.IsList l1 xs1 := hl1.at fun o e => K0 _ o D.l1z e
    have J2_0 : h₁.IsTupleIter i2 l2 k := h2.at fun o e => K0 _ o D.i2z e
    have L2_0 : h₁.IsTuple l2 xs2 := hl2.at' fun o e => K0 _ o D.l2z e
    refine wpAny_bind ?_
    rw [← Array.forIn_toList]
    simp only [List.forIn_cons, List.forIn_nil]
    refine wpAny_bind (wpAny_bind (wpAny_holding ?_))
    show wpAny _ _ (Builtin.SmallTypes.nextOf (.ref i1) >>= _) _ _ _
    refine wpAny_bind (wpAny_nextOf_list_item (s := { s with heap := h₁ }) J1_0 L1_0 hx1 fun g1 m1 gs1 => wpAny_pure ?_)
    refine wpAny_pure ?_
    have J1_1 : g1.IsListIter i1 l1 (k + 1) := m1
    have L1_1 : g1.IsList l1 xs1 := L1_0.extBut gs1.extBut D.l1i1
    have J2_1 : g1.IsTupleIter i2 l2 k := J2_0.extBut gs1.extBut D.i1i2.symm
    have L2_1 : g1.IsTuple l2 xs2 := L2_0.extBut gs1.extBut D.l2i1
    refine wpAny_bind (wpAny_bind (wpAny_holding ?_))
    show wpAny _ _ (Builtin.SmallTypes.nextOf (.ref i2) >>= _) _ _ _
    refine wpAny_bind (RZ.nextOf_tuple_item (s := { s with heap := g1 }) J2_1 L2_1 hx2 fun g2 m2 gs2 => wpAny_pure ?_)
    refine wpAny_pure (wpAny_pure ?_)
    have J1_2 : g2.IsListIter i1 l1 (k + 1) := J1_1.extBut gs2.extBut D.i1i2
    have L1_2 : g2.IsList l1 xs1 := L1_1.extBut gs2.extBut D.l1i2
    have J2_2 : g2.IsTupleIter i2 l2 (k + 1) := m2
    have L2_2 : g2.IsTuple l2 xs2 := L2_1.extBut gs2.extBut D.l2i2
    show wpAny _ _ (newTuple [x1, x2] >>= _) _ _ _
    refine wpAny_bind (wpAny_newTuple ?_)
    have hsz' : g2.objs.size = s.heap.objs.size := by rw [gs2.1, gs1.1, hs₁.1]
    have hz3 : IsZipF g2 z TI TO f0 true := (gs2.extBut _ _ D.i2z.symm (gs1.extBut _ _ D.i1z.symm hz₁))
    have hk : ∀ c o, c ≠ z → c ≠ i1 → c ≠ i2 → s.heap.get? c = some o → g2.get? c = some o := fun c o c1 q1 q2 e => (gs2.extBut _ _ q2 (gs1.extBut _ _ q1 (K0 c o c1 e)))
    refine wpAny_pure ⟨_, rfl, ?_⟩
    show Q (.ref g2.objs.size) _
    have hp : IsTupA (g2.push { cls := .type "tuple", data := .seq #[x1, x2] }) g2.objs.size #[x1, x2] := Heap.get?_push_size _ rfl
    have hz4 : (g2.push { cls := .type "tuple", data := .seq #[x1, x2] }).objs.size = g2.objs.size + 1 := Heap.size_push ..
    rw [hsz'] at hp hz4 ⊢
    exact hQ _ _ _ _ hf0 (Heap.get?_push_of_some _ hz3) (Heap.get?_push_of_some _ (hk _ _ D.TOz D.TOi1 D.TOi2 hTO)) hsz (J1_2.at fun o e => Heap.get?_push_of_some _ e) (J2_2.at fun o e => Heap.get?_push_of_some _ e) hp hz4 fun c o c1 c2 q1 q2 e => Heap.get?_push_of_some _ (hk c o c1 q1 q2 e)
theorem zm_next_end {z TI TO i1 i2 l1 l2 : Addr} {k : Nat} {xs1 xs2 : Array Value} {f0 : Value} {f1 : Bool} {arr : Array Value} {Q : Fin → Shared → Prop} (hh : A.handled = none) (D : ZA2 z TI TO i1 i2 l1 l2) (hz : IsZipF s.heap z TI TO f0 f1) (hf0 : OwnF f0) (hTI : IsTupA s.heap TI #[.ref i1, .ref i2]) (hTO : IsTupA s.heap TO arr) (hsz : arr.size = 2) (h1 : s.heap.IsListIter i1 l1 k) (h2 : s.heap.IsTupleIter i2 l2 k) (hl1 : s.heap.IsList l1 xs1) (hl2 : s.heap.IsTuple l2 xs2) (hx : xs1[k]? = none)
    (hE : ∀ h' e, (∀ c o, c ≠ z → c ≠ TO → c ≠ i1 → c ≠ i2 → s.heap.get? c = some o → h'.get? c = some o) → (∃ o, h'.get? e = some o ∧ o.cls = .type "StopIteration") → E (.ref e) { s with heap := h' }) :
    wpAny (model prog w) A (Builtin.«zip.__next__» ⟨[.ref z], []⟩) Q E s := by
  show wpAny _ _ (field (.ref z) 2 >>= _) _ _ _
  refine wpAny_bind (wpAny_field hz rfl (x := .bool false) rfl ?_)
  show wpAny _ _ (field (.ref z) 3 >>= _) _ _ _
  refine wpAny_bind (wpAny_field hz rfl (x := .ref TI) rfl ?_)
  refine wpAny_bind (wpAny_seqItems hTI rfl ?_)
  show wpAny _ _ (Builtin.SmallTypes.ownedTupleIsFree (.ref z) >>= _) _ _ _
  refine wpAny_bind (owned_any hz hf0 ?_ fun h₁ hz₁ hs₁ => ?_)
  · simp only [if_true]
    refine wpAny_bind (wpAny_rule ?_)
    refine wpAny_bind (wpAny_field hz rfl (x := .ref TO) rfl ?_)
    refine wpAny_bind (wpAny_setField_rec hz (by simp) fun h₀ hz₀ hs₀ => ?_)
    replace hz₀ : IsZipF h₀ z TI TO .ellipsis f1 := hz₀
    refine wpAny_bind ?_
    simp only [List.zipIdx_cons, List.zipIdx_nil, List.forIn_cons, List.forIn_nil]
    refine wpAny_bind (wpAny_bind (wpAny_onRaise ?_))
    show wpAny _ _ (Builtin.SmallTypes.nextOf (.ref i1) >>= _) _ _ _
    refine wpAny_bind (wpAny_nextOf_list_end hh (h1.extBut hs₀.extBut D.i1z) (hl1.extBut hs₀.extBut D.l1z) hx fun h₂ e hs₂ he => ?_)
    obtain ⟨oe, hoe, hce⟩ := he
    have hz₂ : IsZipF h₂ z TI TO .ellipsis f1 := hs₂ _ _ D.i1z.symm hz₀
    have hez : e ≠ z := fun x => by subst x; rw [hz₂] at hoe; cases hoe; simp at hce
    refine wpAny_setField_rec hz₂ (by simp) fun h₃ _ hs₃ => hE h₃ e (fun c o c1 _ c3 _ x => hs₃.extBut _ _ c1 (hs₂ _ _ c3 (hs₀.extBut _ _ c1 x))) ⟨oe, hs₃.extBut _ _ hez hoe, hce⟩
  · simp only [Bool.false_eq_true, if_false]
    refine wpAny_bind ?_
    rw [← Array.forIn_toList]
    simp only [List.forIn_cons, List.forIn_nil]
    refine wpAny_bind (wpAny_bind (wpAny_holding ?_))
    show wpAny _ _ (Builtin.SmallTypes.nextOf (.ref i1) >>= _) _ _ _
    refine wpAny_bind (wpAny_nextOf_list_end (s := { s with heap := h₁ }) hh (h1.extBut hs₁.extBut D.i1z) (hl1.extBut hs₁.extBut D.l1z) hx fun h₂ e hs₂ he => ?_)
    exact hE h₂ e (fun c o c1 _ c3 _ x => hs₂ _ _ c3 (hs₁.extBut _ _ c1 x)) he
theorem zm_pyNext_item {z TI TO i1 i2 l1 l2 : Addr} {k : Nat} {xs1 xs2 : Array Value} {f0 : Value} {f1 : Bool} {arr : Array Value} {x1 x2 : Value} {Q : Option Value → Shared → Prop} (D : ZA2 z TI TO i1 i2 l1 l2) (hz : IsZipF s.heap z TI TO f0 f1) (hf0 : OwnF f0) (hTI : IsTupA s.heap TI #[.ref i1, .ref i2]) (hTO : IsTupA s.heap TO arr) (hsz : arr.size = 2) (h1 : s.heap.IsListIter i1 l1 k) (h2 : s.heap.IsTupleIter i2 l2 k) (hl1 : s.heap.IsList l1 xs1) (hl2 : s.heap.IsTuple l2 xs2) (hx1 : xs1[k]? = some x1) (hx2 : xs2[k]? = some x2)
    (hQ : ∀ h' f0' f1' arr', OwnF f0' → IsZipF h' z TI TO f0' f1' → IsTupA h' TO arr' → arr'.size = 2 → h'.IsListIter i1 l1 (k + 1) → h'.IsTupleIter i2 l2 (k + 1) → IsTupA h' s.heap.objs.size #[x1, x2] → h'.objs.size = s.heap.objs.size + 1 → (∀ c o, c ≠ z → c ≠ TO → c ≠ i1 → c ≠ i2 → s.heap.get? c = some o → h'.get? c = some o) → Q (some (.ref s.heap.objs.size)) { s with heap := h' }) : wpAny (model prog w) A (pyNext (.ref z)) Q E s := by
  have hT : s.TypeIs (.ref z) "zip" := ⟨_, hz, rfl⟩
  unfold pyNext
  exact wpAny_bind (wpAny_attempt (wpAny_callSpecial?_slot (name := Str.ofString "__next__") hT F.slot_zip_next
    (wpAny_call_entry F.slot_zip_next hT F.entry_zip_next
      (zm_next_item D hz hf0 hTI hTO hsz h1 h2 hl1 hl2 hx1 hx2 fun h' b0 b1 b2 b3 b4 b5 b6 b7 b8 b9 b10 b11 => wpAny_pure (hQ h' b0 b1 b2 b3 b4 b5 b6 b7 b8 b9 b10 b11)) (F.args_zip_next_1 _))))
theorem zm_pyNext_end {z TI TO i1 i2 l1 l2 : Addr} {k : Nat} {xs1 xs2 : Array Value} {f0 : Value} {f1 : Bool} {arr : Array Value} {Q : Option Value → Shared → Prop} (hh : A.handled = none) (D : ZA2 z TI TO i1 i2 l1 l2) (hz : IsZipF s.heap z TI TO f0 f1) (hf0 : OwnF f0) (hTI : IsTupA s.heap TI #[.ref i1, .ref i2]) (hTO : IsTupA s.heap TO arr) (hsz : arr.size = 2) (h1 : s.heap.IsListIter i1 l1 k) (h2 : s.heap.IsTupleIter i2 l2 k) (hl1 : s.heap.IsList l1 xs1) (hl2 : s.heap.IsTuple l2 xs2) (hx : xs1[k]? = none)
    (hQ : ∀ h', (∀ c o, c ≠ z → c ≠ TO → c ≠ i1 → c ≠ i2 → s.heap.get? c = some o → h'.get? c = some o) → Q none { s with heap := h' }) : wpAny (model prog w) A (pyNext (.ref z)) Q E s := by
  have hT : s.TypeIs (.ref z) "zip" := ⟨_, hz, rfl⟩
  unfold pyNext
  refine wpAny_bind (wpAny_attempt (wpAny_callSpecial?_slot (name := Str.ofString "__next__") hT F.slot_zip_next
    (wpAny_call_entry F.slot_zip_next hT F.entry_zip_next (zm_next_end hh D hz hf0 hTI hTO hsz h1 h2 hl1 hl2 hx fun h' e hk he => ?_) (F.args_zip_next_1 _))))
  obtain ⟨o, ho, hc⟩ := he
  refine wpAny_bind (wpAny_isInstance (T := "StopIteration") (b := true) ⟨o, ho, hc⟩ isSubtype_stop ?_)
  exact wpAny_pure (hQ _ hk)
end
abbrev ztmH1 (h : Heap) (l1 : Addr) : Heap := h.push { cls := .type "list_iterator", data := .fields #[.ref l1, .int 0 0] }
abbrev ztmH2 (h : Heap) (l1 l2 : Addr) : Heap := (ztmH1 h l1).push { cls := .type "tuple_iterator", data := .fields #[.ref l2, .int 0 0] }
abbrev ztmTI (h : Heap) (l1 l2 : Addr) : Heap := (ztmH2 h l1 l2).push { cls := .type "tuple", data := .seq #[.ref h.objs.size, .ref (ztmH1 h l1).objs.size] }
abbrev ztmTO (h : Heap) (l1 l2 : Addr) : Heap := (ztmTI h l1 l2).push { cls := .type "tuple", data := .seq #[.none, .none] }
abbrev ztmZ (h : Heap) (l1 l2 : Addr) : Heap := (ztmTO h l1 l2).push { cls := .type "zip", data := .fields #[.none, .bool false, .bool false, .ref (ztmH2 h l1 l2).objs.size, .ref (ztmTI h l1 l2).objs.size] }
theorem meets_zm_new (l1 l2 : Addr) (xs1 xs2 : Array Value) :
    Meets (Builtin.«zip.__new__» ⟨[.type "zip", .ref l1, .ref l2], []⟩) (fun _ R s => s.heap.IsList l1 xs1 ∧ s.heap.IsTuple l2 xs2 ∧
      R (.ok (.ret (.ref (ztmTO s.heap l1 l2).objs.size))) { s with heap := ztmZ s.heap l1 l2 }) :=
  .of_wp fun prog w A R s h => by
    obtain ⟨hp, g, d, tk, os⟩ := s; obtain ⟨hl1, hl2, h⟩ := h
    have hsub := sub_zip
    have hL1 : Heap.IsList (Shared.heap ⟨hp, g, d, tk, os⟩) l1 xs1 := hl1
    have hL2 : Heap.IsTuple (Shared.heap ⟨(ztmH1 hp l1), g, d, tk, os⟩) l2 xs2 := Heap.IsTuple.push (hl2) _
    wp_walk using wpAny_pyIter_list hL1, wpAny_pyIter_tuple hL2
    exact ⟨_, rfl, h⟩
section
variable {prog : Program} {w : World} {A : Around} {E : Value → Shared → Prop} {s : Shared}
theorem call_zm {l1 l2 : Addr} {xs1 xs2 : Array Value} {Q : Value → Shared → Prop} (hl1 : s.heap.IsList l1 xs1) (hl2 : s.heap.IsTuple l2 xs2)
    (h : ∀ h', IsZipF h' (s.heap.objs.size + 4) (s.heap.objs.size + 2) (s.heap.objs.size + 3) .none false → IsTupA h' (s.heap.objs.size + 2) #[.ref s.heap.objs.size, .ref (s.heap.objs.size + 1)] → IsTupA h' (s.heap.objs.size + 3) #[.none, .none] → h'.IsListIter s.heap.objs.size l1 0 → h'.IsTupleIter (s.heap.objs.size + 1) l2 0 → h'.objs.size = (s.heap.objs.size + 5) → (∀ c o, s.heap.get? c = some o → h'.get? c = some o) → Q (.ref (s.heap.objs.size + 4)) { s with heap := h' }) :
    wpAny (model prog w) A (call (.type "zip") [.ref l1, .ref l2]) Q E s := by
  refine callType_new F.called_zip (by decide) (F.typeCall_zip_2 _ _) (F.newCall_zip_2 _ _) (fun obj => F.args_object_init_3 obj _ _) F.entry_zip_new (meets_zm_new l1 l2 xs1 xs2) ⟨hl1, hl2, ?_⟩
  have z1 : (ztmH1 s.heap l1).objs.size = (s.heap.objs.size + 1) := Heap.size_push ..
  have z2 : (ztmH2 s.heap l1 l2).objs.size = (s.heap.objs.size + 2) := by rw [Heap.size_push, z1]
  have z3 : (ztmTI s.heap l1 l2).objs.size = (s.heap.objs.size + 3) := by rw [Heap.size_push, z2]
  have z4 : (ztmTO s.heap l1 l2).objs.size = (s.heap.objs.size + 4) := by rw [Heap.size_push, z3]
  have z5 : (ztmZ s.heap l1 l2).objs.size = (s.heap.objs.size + 5) := by rw [Heap.size_push, z4]
  have g0 : (ztmZ s.heap l1 l2).get? s.heap.objs.size = some _ := Heap.get?_push_of_some _ (Heap.get?_push_of_some _ (Heap.get?_push_of_some _ (Heap.get?_push_of_some _ (Heap.get?_push_size _ rfl))))
  have g1 : (ztmZ s.heap l1 l2).get? (ztmH1 s.heap l1).objs.size = some _ := Heap.get?_push_of_some _ (Heap.get?_push_of_some _ (Heap.get?_push_of_some _ (Heap.get?_push_size _ rfl)))
  have g2 : (ztmZ s.heap l1 l2).get? (ztmH2 s.heap l1 l2).objs.size = some _ := Heap.get?_push_of_some _ (Heap.get?_push_of_some _ (Heap.get?_push_size _ rfl))
  have g3 : (ztmZ s.heap l1 l2).get? (ztmTI s.heap l1 l2).objs.size = some _ := Heap.get?_push_of_some _ (Heap.get?_push_size _ rfl)
  have g4 : (ztmZ s.heap l1 l2).get? (ztmTO s.heap l1 l2).objs.size = some _ := Heap.get?_push_size _ rfl
  show _ ∧ _
  rw [z2, z3, z4] at g4
  rw [z1, z2] at g2
  rw [z3] at g3
  rw [z1] at g1
  rw [z4]
  exact ⟨⟨_, g4, rfl⟩, h _ g4 g2 g3 ⟨_, g0, rfl, rfl⟩ ⟨_, g1, rfl, rfl⟩ z5 fun c o x => Heap.get?_push_of_some _ (Heap.get?_push_of_some _ (Heap.get?_push_of_some _ (Heap.get?_push_of_some _ (Heap.get?_push_of_some _ (x)))))⟩
end
theorem letgo_any {prog : Program} {w : World} {A : Around} {E : Value → Shared → Prop} {s : Shared} {elts : List Expr} {kk : Nat} {pos : Pos} {z TI TO T : Addr} {f0 : Value} {f1 : Bool} {Q : Unit → Shared → Prop} (hz : IsZipF s.heap z TI TO f0 f1) (hf : OwnF f0)
    (hQ : ∀ h' f', OwnF f' → IsZipF h' z TI TO f' f1 → Heap.SameBut z s.heap h' → Q () { s with heap := h' }) : wpAny (model prog w) A (letOwnedTupleGo (.Tuple elts kk pos) (.ref z) (.ref T)) Q E s := by
  unfold letOwnedTupleGo
  refine wpAny_bind (wpAny_load hz ?_)
  by_cases hc : (["enumerate", "zip", "dict_itemiterator", "dict_reverseitemiterator", "odict_iterator", "itertools.zip_longest", "itertools.pairwise"].contains "zip" && (#[f0, .bool f1, .bool false, .ref TI, .ref TO] : Array Value)[0]? == some (rawInt T)) = true
  · refine PySem.W.KFB.if_so hc ?_
    refine wpAny_bind (wpAny_rule ?_)
    show wpAny _ _ (setField (.ref z) 0 .none) Q E s
    exact wpAny_setField_rec hz (by simp) fun h' hz' hs' => hQ h' .none (.inl rfl) hz' hs'
  · refine PySem.W.KFB.if_not (Bool.eq_false_iff.mpr hc) ?_
    exact wpAny_pure (hQ s.heap f0 hf hz ⟨rfl, fun _ _ => rfl⟩)
/-- the list and the tuple as they stand at each turn, the items in a new tuple -/
def ItSM (K : PySem.W.Frag) (a1 a2 : Addr) : It :=
  ⟨fun i H => ∃ (xs1 xs2 : List V) (x1 x2 : V), SqL K H a1 xs1 ∧ SqT K H a2 xs2 ∧ xs1[i]? = some x1 ∧ xs2[i]? = some x2,
    fun i H v H' => ∃ T x1 x2, v = .ref T ∧ H T = none ∧ H' = upd H T (.tup [x1, x2]) ∧ (∀ ys, SqL K H a1 ys → ys[i]? = some x1) ∧ (∀ ys, SqT K H a2 ys → ys[i]? = some x2),
    fun i H => ∃ (xs1 xs2 : List V), SqL K H a1 xs1 ∧ SqT K H a2 xs2 ∧ xs1.length ≤ i⟩
theorem turn_SM {P : Program} {w : World} {K : PySem.W.Frag} {elts : List Expr} {kk : Nat} {tpos : Pos} {z TI TO i1 i2 a1 a2 : Addr} (D : ZA2 z TI TO i1 i2 a1 a2) : Turn P w K (.Tuple elts kk tpos) (ItSM K a1 a2) [z, TI, TO, i1, i2] z (fun i h => ∃ f0 f1 arr, OwnF f0 ∧ IsZipF h z TI TO f0 f1 ∧ IsTupA h TI #[.ref i1, .ref i2] ∧ IsTupA h TO arr ∧ arr.size = 2 ∧ h.IsListIter i1 a1 i ∧ h.IsTupleIter i2 a2 i) where
  mem := by simp
  obj := fun i h st c hc => by
    obtain ⟨f0, f1, arr, hf0, hz, hTI, hTO, hsz, ⟨o1, e1, _, d1⟩, ⟨o2, e2, _, d2⟩⟩ := st
    have e' : c = z ∨ c = TI ∨ c = TO ∨ c = i1 ∨ c = i2 := by simpa using hc
    rcases e' with q | q | q | q | q
    · rw [q]; exact ⟨_, hz, fun v q => nomatch q⟩
    · rw [q]; exact ⟨_, hTI, fun v q => nomatch q⟩
    · rw [q]; exact ⟨_, hTO, fun v q => nomatch q⟩
    · rw [q]; exact ⟨o1, e1, fun v q => by rw [d1] at q; cases q⟩
    · rw [q]; exact ⟨o2, e2, fun v q => by rw [d2] at q; cases q⟩
  keep := fun i h h' st k => by
    obtain ⟨f0, f1, arr, hf0, hz, hTI, hTO, hsz, h1, h2⟩ := st
    exact ⟨f0, f1, arr, hf0, k z (by simp) _ hz, k TI (by simp) _ hTI, k TO (by simp) _ hTO, hsz, h1.at fun o q => k i1 (by simp) o q, h2.at fun o q => k i2 (by simp) o q⟩
  item := by
    intro X hP hw hK hc i pins s σ H E I hf st hg
    subst hP hw hK
    obtain ⟨f0, f1, arr, hf0, hz, hTI, hTO, hsz, h1, h2⟩ := st
    obtain ⟨xs1, xs2, x1, x2, hq1, hq2, hx1, hx2⟩ := hg
    obtain ⟨its1, rv1, p1, _⟩ := I.list hq1
    obtain ⟨w1, hw1, rw1⟩ := rv1.get hx1
    obtain ⟨its2, rv2, p2, _⟩ := I.tuple hq2
    obtain ⟨w2, hw2, rw2⟩ := rv2.get hx2
    have hzl : z < s.heap.objs.size := Heap.lt_size hz
    refine zm_pyNext_item D hz hf0 hTI hTO hsz h1 h2 p1.isList p2 (by simpa using hw1) (by simpa using hw2) fun h3 f3 f1' arr' hf3 hz3 TO3 hsz' h13 h23 hT3 hsz2 hk3 => ?_
    refine ⟨_, rfl, letgo_any (s := { s with heap := h3 }) hz3 hf3 fun h' f0' hf0' hz' sb => ?_⟩
    have TO' : IsTupA h' TO arr' := (sb.2 _ D.TOz).trans TO3
    have h1' := h13.at fun o q => (sb.2 _ D.i1z).trans q
    have h2' := h23.at fun o q => (sb.2 _ D.i2z).trans q
    have hT : IsTupA h' s.heap.objs.size _ := (sb.2 _ (Nat.ne_of_gt hzl)).trans hT3
    have hk : ∀ c o, c ≠ z → c ≠ TO → c ≠ i1 → c ≠ i2 → s.heap.get? c = some o → h'.get? c = some o := fun c o c1 c2 c3 c4 e => (sb.2 _ c1).trans (hk3 c o c1 c2 c3 c4 e)
    have new : ObjOk X.prog X.w (upd H s.heap.objs.size (.tup [x1, x2])) h' s.heap.objs.size (.tup [x1, x2]) := ⟨by show 2 ≤ sizeLine; decide, [w1, w2], .cons rw1 (.cons rw2 (.nil)), ⟨_, hT, rfl, _, rfl⟩⟩
    have I1 : Inv X pins σ (upd H s.heap.objs.size (.tup [x1, x2])) { s with heap := h' } :=
      I.turnedNew (t' := s.toks) (ch := [z, TI, TO, i1, i2]) (fun c o hb q => hk c o (fun q' => hb (by simp [q'])) (fun q' => hb (by simp [q'])) (fun q' => hb (by simp [q'])) (fun q' => hb (by simp [q'])) q) hf (Nat.le_refl _) new
    refine ⟨.ref s.heap.objs.size, _, I1, rfl, ⟨_, x1, x2, rfl, I.hok.fresh (Nat.le_refl _), rfl, fun l hl => by rw [I.list_inj hl hq1]; exact hx1, fun l hl => by rw [I.tuple_inj hl hq2]; exact hx2⟩, ⟨f0', f1', arr', hf0', hz', ?_, TO', hsz', h1', h2'⟩, fun c hcm => ?_⟩
    · exact hk _ _ D.TIz D.TITO D.TIi1 D.TIi2 hTI
    · have hlt : c < s.heap.objs.size := by
        have e' : c = z ∨ c = TI ∨ c = TO ∨ c = i1 ∨ c = i2 := by simpa using hcm
        rcases e' with q | q | q | q | q
        · rw [q]; exact hzl
        · rw [q]; exact Heap.lt_size hTI
        · rw [q]; exact Heap.lt_size hTO
        · rw [q]; obtain ⟨_, e1, _⟩ := h1; exact Heap.lt_size e1
        · rw [q]; obtain ⟨_, e1, _⟩ := h2; exact Heap.lt_size e1
      rw [upd_ne (Nat.ne_of_lt hlt)]
      exact (hf c hcm).1
  done := by
    intro X hP hw hK hc i pins s σ H E I hf st hg
    subst hP hw hK
    obtain ⟨f0, f1, arr, hf0, hz, hTI, hTO, hsz, h1, h2⟩ := st
    obtain ⟨xs1, xs2, hq1, hq2, hend⟩ := hg
    obtain ⟨its1, rv1, p1, _⟩ := I.list hq1
    obtain ⟨its2, rv2, p2, _⟩ := I.tuple hq2
    have l1 := rv1.length
    exact zm_pyNext_end (I.ok.hd hc) D hz hf0 hTI hTO hsz h1 h2 p1.isList p2 (by simp; omega) fun h' hk => ⟨rfl, I.turnedL (t' := s.toks) (ch := [z, TI, TO, i1, i2]) (fun c o hb q => hk c o (fun q' => hb (by simp [q'])) (fun q' => hb (by simp [q'])) (fun q' => hb (by simp [q'])) (fun q' => hb (by simp [q'])) q) hf⟩
  self := fun A i s Q E st h => by
    obtain ⟨f0, f1, arr, hf0, hz, _⟩ := st
    exact pyIter_zipF hz h

theorem apartM (I a1 a2 : Nat) (h1 : a1 < I) (h2 : a2 < I) : ZA2 (I + 4) (I + 2) (I + 3) I (I + 1) a1 a2 := by
  constructor <;> (refine neA ?_; omega)
def iZipM (K : PySem.W.Frag) (ta : TA) : TI := fun σ H R => ta σ H fun vs H1 => ∃ (a b : Addr) (xs ys : List V), vs = [.ref a, .ref b] ∧ SqL K H1 a xs ∧ SqT K H1 b ys ∧ R (ItSM K a b) H1
theorem pi_zipM {X : Cx} {e e2 : Expr} {ta : TA} {p pos tpos : Pos} {elts : List Expr} {kk : Nat} (hg : Gl X "zip") (hm : X.mg "zip" = none) (ha : PA X [e, e2] ta)
    (hs : starEach [e, e2] X.env = (false, eval e X.env) :: starEach [e2] X.env := by rfl) (hpl : (backTo pos (starEach [e2] X.env)).any (·.1) = false := by rfl) :
    PI X (.Tuple elts kk tpos) (.Call (.Name "zip" p) [e, e2] [] pos) (iZipM X.K ta) := by
  refine ⟨fun pins s σ H R I h => ?_⟩
  refine Call_ (ld_blt I hg hm PyProof.Rows.boot_zip (PyProof.Rows.callWith_type1 (thn (ha.run pos pins s σ H _ I h) fun us s1 ⟨vs, H1, I1, r1, a, b, xs, ys, ev, hq1, hq2, q⟩ => ?_) hs hpl))
  subst ev
  obtain rfl : us = [.ref a, .ref b] := vals_refs2 r1
  obtain ⟨its1, rv1, p1, _⟩ := I1.list hq1
  obtain ⟨its2, rv2, p2, _⟩ := I1.tuple hq2
  obtain ⟨o2, ho2, _⟩ := id p2
  refine call_zm p1.isList (show s1.heap.IsTuple b its2.toArray from p2) fun h' hz hTI hTO h1 h2 hsz hk => pyIter_zipF hz ?_
  have I2 : Inv X pins σ H1 { s1 with heap := h' } := I1.kept (t' := s1.toks) hk
  refine ⟨s1.heap.objs.size + 4, [s1.heap.objs.size + 4, s1.heap.objs.size + 2, s1.heap.objs.size + 3, s1.heap.objs.size, s1.heap.objs.size + 1], _, _, H1, rfl, I2, turn_SM (apartM s1.heap.objs.size a b p1.lt (Heap.lt_size ho2)), ⟨_, _, _, .inl rfl, hz, hTI, hTO, rfl, h1, h2⟩, fun c hcm => ?_, q⟩
  have hle : s1.heap.objs.size ≤ c := by
    simp only [List.mem_cons, List.not_mem_nil, or_false] at hcm
    rcases hcm with rfl | rfl | rfl | rfl | rfl <;> first | exact Nat.le_refl _ | exact Nat.le_add_right _ _
  exact I1.fpOk hle (I1.hok.fresh hle)
end Hs
namespace Hs
/-! ### rows of counts (lists turned round: the last count first) -/
def rows1 (rs : List (List Int)) (c : Int) : List (List Int) := rs.flatMap fun r => (List.range c.toNat).map fun i : Nat => r ++ [(i : Int)]
def RR : List Int → List (List Int)
  | [] => [[]]
  | c :: l => rows1 (RR l) c
def PR : List Int → Int
  | [] => 1
  | c :: l => PR l * c
def digs : List Int → Int → List Int
  | [], _ => []
  | c :: l, n => n % c :: digs l (n / c)
def rowR (l : List Int) (n : Int) : List Int := (digs l n).reverse
def restI : List Int → Int → Nat → Int
  | _, n, 0 => n
  | [], n, _ + 1 => n
  | c :: l, n, i + 1 => restI l (n / c) i
def nums (cs r : List Int) : Nat → Int
  | 0 => 0
  | i + 1 => nums cs r i * cs.getD i 0 + r.getD i 0
def Cnt (cs : List Int) : Prop := cs.length ≤ 5 ∧ ∀ c ∈ cs, 1 ≤ c ∧ c ≤ 6
theorem Cnt.rev {cs : List Int} (h : Cnt cs) : Cnt cs.reverse := ⟨by rw [List.length_reverse]; exact h.1, fun c hc => h.2 c (List.mem_reverse.mp hc)⟩
theorem take_rev {cs : List Int} {i : Nat} {c : Int} (h : cs[i]? = some c) : (cs.take (i + 1)).reverse = c :: (cs.take i).reverse := by
  rw [List.take_add_one, h, List.reverse_append] <;> rfl
theorem PR_bd : ∀ {l : List Int}, (∀ c ∈ l, 1 ≤ c ∧ c ≤ 6) → 1 ≤ PR l ∧ PR l ≤ 6 ^ l.length
  | [], _ => ⟨Int.le_refl _, Int.le_refl _⟩
  | c :: l, h => by
    obtain ⟨h1, h2⟩ := PR_bd (l := l) fun x hx => h x (List.mem_cons_of_mem _ hx)
    obtain ⟨c1, c2⟩ := h c (List.mem_cons_self ..)
    constructor
    · show 1 ≤ PR l * c
      have := Int.mul_le_mul h1 c1 (by omega) (by omega)
      omega
    · show PR l * c ≤ 6 ^ (l.length + 1)
      rw [Int.pow_succ]
      exact Int.mul_le_mul h2 c2 (by omega) (by omega)
theorem six_le {n : Nat} (h : n ≤ 5) : (6 : Int) ^ n ≤ 7776 := by
  have : n = 0 ∨ n = 1 ∨ n = 2 ∨ n = 3 ∨ n = 4 ∨ n = 5 := by omega
  rcases this with rfl | rfl | rfl | rfl | rfl | rfl <;> decide
theorem PR_small {l : List Int} (h : Cnt l) : 1 ≤ PR l ∧ PR l ≤ 7776 := by
  obtain ⟨h1, h2⟩ := PR_bd h.2
  have := six_le h.1
  exact ⟨h1, by omega⟩
theorem Cnt.take {cs : List Int} (h : Cnt cs) (i : Nat) : Cnt (cs.take i).reverse := by
  refine Cnt.rev ⟨?_, fun c hc => h.2 c (List.mem_of_mem_take hc)⟩
  rw [List.length_take]
  have := h.1
  omega
theorem rows1_len {rs : List (List Int)} {c : Int} : (rows1 rs c).length = rs.length * c.toNat := by
  induction rs with
  | nil => simp [rows1]
  | cons r rs ih =>
    have e : rows1 (r :: rs) c = ((List.range c.toNat).map fun i : Nat => r ++ [(i : Int)]) ++ rows1 rs c := by simp [rows1]
    rw [e, List.length_append, ih, List.length_map, List.length_range, List.length_cons, Nat.succ_mul]
    omega
theorem rows1_at {rs : List (List Int)} {c : Int} (hc : 1 ≤ c) : ∀ {n : Nat}, (rows1 rs c)[n]? = (rs[n / c.toNat]?).map fun r => r ++ [((n % c.toNat : Nat) : Int)] := by
  have hk : 0 < c.toNat := by omega
  generalize hkk : c.toNat = k at hk
  induction rs with
  | nil => intro n; simp [rows1]
  | cons r rs ih =>
    intro n
    have e : rows1 (r :: rs) c = ((List.range c.toNat).map fun i : Nat => r ++ [(i : Int)]) ++ rows1 rs c := by simp [rows1]
    rw [e, hkk]
    by_cases h : n < k
    · rw [List.getElem?_append_left (by simpa using h), Nat.div_eq_of_lt h, Nat.mod_eq_of_lt h]
      simp [h]
    · have h1 : n / k = (n - k) / k + 1 := by rw [Nat.div_eq_sub_div hk (by omega)]
      have h2 : n % k = (n - k) % k := by rw [Nat.mod_eq_sub_mod (by omega)]
      rw [List.getElem?_append_right (by simpa using (by omega : k ≤ n)), h1, h2]
      simp only [List.length_map, List.length_range, List.getElem?_cons_succ]
      exact ih
theorem RR_len : ∀ {l : List Int}, (∀ c ∈ l, 1 ≤ c ∧ c ≤ 6) → ((RR l).length : Int) = PR l
  | [], _ => rfl
  | c :: l, h => by
    have ih := RR_len (l := l) fun x hx => h x (List.mem_cons_of_mem _ hx)
    obtain ⟨c1, c2⟩ := h c (List.mem_cons_self ..)
    show ((rows1 (RR l) c).length : Int) = PR l * c
    rw [rows1_len, Int.natCast_mul, ih, Int.toNat_of_nonneg (by omega)]
theorem RR_at : ∀ {l : List Int}, (∀ c ∈ l, 1 ≤ c ∧ c ≤ 6) → ∀ {n : Nat}, (n : Int) < PR l → (RR l)[n]? = some (rowR l n)
  | [], _, n, hn => by
    have : n = 0 := by
      have : (n : Int) < 1 := hn
      omega
    subst this
    rfl
  | c :: l, h, n, hn => by
    obtain ⟨c1, c2⟩ := h c (List.mem_cons_self ..)
    have hl := fun x hx => h x (List.mem_cons_of_mem _ hx)
    have ek : ((c.toNat : Nat) : Int) = c := Int.toNat_of_nonneg (by omega)
    have hq : ((n / c.toNat : Nat) : Int) = (n : Int) / c := by rw [Int.natCast_ediv, ek]
    have hm : ((n % c.toNat : Nat) : Int) = (n : Int) % c := by rw [Int.natCast_emod, ek]
    have hn' : ((n / c.toNat : Nat) : Int) < PR l := by
      rw [hq]
      exact Int.ediv_lt_of_lt_mul (by omega) hn
    show (rows1 (RR l) c)[n]? = some (digs (c :: l) n).reverse
    rw [rows1_at c1, RR_at (l := l) hl hn', hm]
    show some (rowR l ((n / c.toNat : Nat) : Int) ++ [(n : Int) % c]) = some ((n : Int) % c :: digs l ((n : Int) / c)).reverse
    rw [hq, List.reverse_cons] <;> rfl
theorem digs_len : ∀ {l : List Int} {n : Int}, (digs l n).length = l.length
  | [], _ => rfl
  | c :: l, n => by
    show (digs l (n / c)).length + 1 = l.length + 1
    rw [digs_len]
theorem digs_step : ∀ {l : List Int} {n : Int} {i : Nat} {c : Int}, l[i]? = some c → digs (l.take (i + 1)) n = digs (l.take i) n ++ [restI l n i % c] ∧ restI l n (i + 1) = restI l n i / c
  | [], _, _, _, h => by cases h
  | a :: l, n, 0, c, h => by
    cases h
    refine ⟨rfl, ?_⟩
    show restI l (n / a) 0 = n / a
    cases l <;> rfl
  | a :: l, n, i + 1, c, h => by
    obtain ⟨h1, h2⟩ := digs_step (l := l) (n := n / a) (i := i) (c := c) h
    refine ⟨?_, h2⟩
    show n % a :: digs (l.take (i + 1)) (n / a) = (n % a :: digs (l.take i) (n / a)) ++ [restI l (n / a) i % c]
    rw [h1] <;> rfl
theorem rest_bd : ∀ {l : List Int} {n : Int} {i : Nat}, (∀ c ∈ l, 1 ≤ c ∧ c ≤ 6) → 0 ≤ n → 0 ≤ restI l n i ∧ restI l n i ≤ n
  | [], n, 0, _, h => ⟨h, Int.le_refl _⟩
  | [], n, i + 1, _, h => ⟨h, Int.le_refl _⟩
  | a :: l, n, 0, _, h => ⟨h, Int.le_refl _⟩
  | a :: l, n, i + 1, hl, h => by
    obtain ⟨c1, c2⟩ := hl a (List.mem_cons_self ..)
    have q := Int.ediv_nonneg h (by omega : 0 ≤ a)
    obtain ⟨h1, h2⟩ := rest_bd (l := l) (n := n / a) (i := i) (fun x hx => hl x (List.mem_cons_of_mem _ hx)) q
    refine ⟨h1, Int.le_trans h2 ?_⟩
    exact Int.ediv_le_self a h
theorem nums_pre {a b x y : List Int} : ∀ {i : Nat}, i ≤ a.length → i ≤ b.length → nums (a ++ x) (b ++ y) i = nums a b i
  | 0, _, _ => rfl
  | i + 1, h1, h2 => by
    show nums (a ++ x) (b ++ y) i * (a ++ x).getD i 0 + (b ++ y).getD i 0 = nums a b i * a.getD i 0 + b.getD i 0
    rw [nums_pre (by omega) (by omega), List.getD_eq_getElem?_getD, List.getD_eq_getElem?_getD, List.getElem?_append_left (by omega), List.getElem?_append_left (by omega), ← List.getD_eq_getElem?_getD, ← List.getD_eq_getElem?_getD]
theorem nums_row : ∀ {l : List Int}, (∀ c ∈ l, 1 ≤ c ∧ c ≤ 6) → ∀ {n : Int}, 0 ≤ n → n < PR l → nums l.reverse (rowR l n) l.length = n
  | [], _, n, h0, h1 => by
    have h1 : n < 1 := h1
    have : n = 0 := by omega
    subst this
    rfl
  | c :: l, hl, n, h0, h1 => by
    obtain ⟨c1, c2⟩ := hl c (List.mem_cons_self ..)
    have hl' := fun x hx => hl x (List.mem_cons_of_mem _ hx)
    have hq : n / c < PR l := Int.ediv_lt_of_lt_mul (by omega) h1
    have ih := nums_row (l := l) hl' (Int.ediv_nonneg h0 (by omega)) hq
    have er : rowR (c :: l) n = rowR l (n / c) ++ [n % c] := by
      show (n % c :: digs l (n / c)).reverse = _
      rw [List.reverse_cons] <;> rfl
    have len : (rowR l (n / c)).length = l.length := by
      unfold rowR
      rw [List.length_reverse, digs_len]
    rw [er, List.reverse_cons]
    show nums (l.reverse ++ [c]) (rowR l (n / c) ++ [n % c]) l.length * (l.reverse ++ [c]).getD l.length 0 + (rowR l (n / c) ++ [n % c]).getD l.length 0 = n
    rw [nums_pre (by simp) (by rw [len]; exact Nat.le_refl _), ih]
    have e1 : (l.reverse ++ [c]).getD l.length 0 = c := by
      rw [List.getD_eq_getElem?_getD, List.getElem?_append_right (by simp)]
      simp
    have e2 : (rowR l (n / c) ++ [n % c]).getD l.length 0 = n % c := by
      rw [List.getD_eq_getElem?_getD, List.getElem?_append_right (by rw [len]; exact Nat.le_refl _), len]
      simp
    rw [e1, e2]
    have := Int.mul_ediv_add_emod n c
    rw [Int.mul_comm] at this
    exact this
/-- the digits stand below their counts -/
def Below (cs r : List Int) (k : Nat) : Prop := ∀ (i : Nat) (c d : Int), i < k → cs[i]? = some c → r[i]? = some d → 0 ≤ d ∧ d < c
theorem below_row : ∀ {l : List Int}, (∀ c ∈ l, 1 ≤ c ∧ c ≤ 6) → ∀ {n : Int} {k : Nat}, Below l.reverse (rowR l n) k
  | [], _, n, k => fun i c d _ h _ => by cases h
  | a :: l, hl, n, k => fun i c d hi hc hd => by
    obtain ⟨c1, c2⟩ := hl a (List.mem_cons_self ..)
    have hl' := fun x hx => hl x (List.mem_cons_of_mem _ hx)
    have er : rowR (a :: l) n = rowR l (n / a) ++ [n % a] := by
      show (n % a :: digs l (n / a)).reverse = _
      rw [List.reverse_cons] <;> rfl
    have len : (rowR l (n / a)).length = l.length := by
      unfold rowR
      rw [List.length_reverse, digs_len]
    rw [er] at hd
    rw [List.reverse_cons] at hc
    by_cases h : i < l.length
    · rw [List.getElem?_append_left (by simpa using h)] at hc
      rw [List.getElem?_append_left (by rw [len]; exact h)] at hd
      exact below_row (l := l) hl' i c d hi hc hd
    · rw [List.getElem?_append_right (by simpa using (by omega : l.length ≤ i))] at hc
      rw [List.getElem?_append_right (by rw [len]; omega)] at hd
      have e0 : i - l.reverse.length = 0 := by
        have : i - l.reverse.length < 1 := (List.getElem?_eq_some_iff.mp hc).1
        omega
      rw [e0] at hc
      have e1 : i - (rowR l (n / a)).length = 0 := by
        rw [len]
        rw [List.length_reverse] at e0
        exact e0
      rw [e1] at hd
      cases hc
      cases hd
      exact ⟨Int.emod_nonneg _ (by omega), Int.emod_lt_of_pos _ (by omega)⟩
theorem nums_bd {cs r : List Int} (hc : ∀ c ∈ cs, 1 ≤ c ∧ c ≤ 6) : ∀ {k : Nat}, k ≤ cs.length → k ≤ r.length → Below cs r k → 0 ≤ nums cs r k ∧ nums cs r k < 6 ^ k
  | 0, _, _, _ => ⟨Int.le_refl _, (by decide : (0 : Int) < 6 ^ 0)⟩
  | k + 1, h1, h2, hb => by
    obtain ⟨i1, i2⟩ := nums_bd hc (k := k) (by omega) (by omega) fun i c d hi => hb i c d (by omega)
    have g1 : cs[k]? = some (cs.getD k 0) := by rw [List.getD_eq_getElem?_getD, List.getElem?_eq_getElem (by omega)] <;> rfl
    have g2 : r[k]? = some (r.getD k 0) := by rw [List.getD_eq_getElem?_getD, List.getElem?_eq_getElem (by omega)] <;> rfl
    obtain ⟨d1, d2⟩ := hb k _ _ (by omega) g1 g2
    obtain ⟨c1, c2⟩ := hc _ (List.mem_of_getElem? g1)
    generalize cs.getD k 0 = c at g1 d2 c1 c2 ⊢
    generalize r.getD k 0 = d at g2 d1 d2 ⊢
    show 0 ≤ nums cs r k * cs.getD k 0 + r.getD k 0 ∧ _
    have ec : cs.getD k 0 = c := by rw [List.getD_eq_getElem?_getD, g1] <;> rfl
    have ed : r.getD k 0 = d := by rw [List.getD_eq_getElem?_getD, g2] <;> rfl
    rw [show nums cs r (k + 1) = nums cs r k * cs.getD k 0 + r.getD k 0 from rfl, ec, ed]
    generalize nums cs r k = m at i1 i2 ⊢
    have p0 := Int.mul_nonneg i1 (by omega : 0 ≤ c)
    refine ⟨by omega, ?_⟩
    have p1 : m * c + c ≤ 6 ^ k * c := by
      have : (m + 1) * c ≤ 6 ^ k * c := Int.mul_le_mul_of_nonneg_right (by omega) (by omega)
      rw [Int.add_mul, Int.one_mul] at this
      exact this
    have p2 : (6 : Int) ^ k * c ≤ 6 ^ k * 6 := Int.mul_le_mul_of_nonneg_left c2 (Int.le_trans i1 (Int.le_of_lt i2))
    rw [Int.pow_succ]
    omega
theorem row_len {l : List Int} {n : Int} : (rowR l n).length = l.length := by
  unfold rowR
  rw [List.length_reverse, digs_len]
theorem RR_row {l : List Int} {r : List Int} : r ∈ RR l → r.length = l.length := by
  induction l generalizing r with
  | nil =>
    intro h
    have h : r ∈ [([] : List Int)] := h
    rw [List.mem_singleton.mp h] <;> rfl
  | cons c l ih =>
    intro h
    have h : r ∈ rows1 (RR l) c := h
    unfold rows1 at h
    obtain ⟨q, hq, h⟩ := List.mem_flatMap.mp h
    obtain ⟨i, _, rfl⟩ := List.mem_map.mp h
    rw [List.length_append, ih hq] <;> rfl
end Hs
namespace Hs
open PySem PySem.Spec PyProof.Rows L2 Evl
/-! ### lists or tuples; rows of choices -/
theorem ip_mul {X : Cx} : PIp X .Mult (fun x y H Q => ∃ i j, x = .int i ∧ y = .int j ∧ CMulW i j ∧ Q (.int (i * j)) H) := by
  intro pins s σ H x y v u Q I r1 r2 h
  obtain ⟨i, j, e1, e2, hc, q⟩ := h
  subst e1; subst e2
  obtain ⟨t, rfl⟩ := r1
  obtain ⟨t', rfl⟩ := r2
  exact imul_int ⟨.int _, H, I.tok _, ⟨_, rfl⟩, q⟩ hc.ok
theorem pa_starK {X : Cx} {K : PySem.W.Frag} {e : Expr} {es : List Expr} {te : TE} {t : TA} {p : Pos} (he : PE X e te) (hr : PA X es t) (hK : X.K = K := by rfl) (hs : starEach (.Starred e p :: es) X.env = (true, eval e X.env) :: starEach es X.env := by rfl) : PA X (.Starred e p :: es) (StX.tStar K te t) := by
  subst hK
  exact StX.pa_star he hr hs
def SqQ (K : PySem.W.Frag) (H : Hp) (a : Addr) (xs : List V) : Prop := SqL K H a xs ∨ SqT K H a xs
theorem SqQ.ext {K : PySem.W.Frag} {H H' : Hp} {a : Addr} {xs : List V} (h : SqQ K H a xs) (e : Ex H H') : SqQ K H' a xs := h.imp (fun h => ex_l e h) fun h => ex_t e h
def iSeq (K : PySem.W.Frag) (tl : TE) : TI := fun σ H R => iList K tl σ H R ∨ iTup K tl σ H R
theorem pi_seq {X : Cx} {tg l : Expr} {tl : TE} (hl : PE X l tl) : PI X tg l (iSeq X.K tl) := ⟨fun pins s σ H R I h => h.elim (fun h => (pi_list hl).run pins s σ H R I h) fun h => (pi_tup hl).run pins s σ H R I h⟩
section
variable {K : PySem.W.Frag} {D : Ends} {σ : L2.St} {H : Hp} {g : TG} {tu tz : TS}
theorem s_forQ {a : Addr} {xs : List V} {tl : TE} (h : Ev tl σ H (.ref a)) (hx : SqQ K H a xs) (Pv : Nat → L2.St → Hp → Prop) (h0 : ∀ H1, Ex H H1 → Pv 0 σ H1) (hl : ∀ i σ' H', Pv i σ' H' → Ex H H')
    (hs : ∀ i x σ' H', xs[i]? = some x → Pv i σ' H' → g x σ' H' fun σ2 H2 => tu { D with nx := Pv (i + 1), ct := Pv (i + 1), bk := D.nx } σ2 H2) (hd : ∀ σ' H', Pv xs.length σ' H' → D.nx σ' H') : tFor (iSeq K tl) g tu D σ H := by
  rcases hx with hx | hx
  · exact .inl (s_forL h hx Pv h0 (fun i σ' H' _ p => ex_l (hl i σ' H' p) hx) hs hd)
  · exact .inr (s_forT h hx Pv h0 (fun i σ' H' _ p => ex_t (hl i σ' H' p) hx) hs hd)
theorem q_forQ {a : Addr} {xs : List V} {tl : TE} (h : Ev tl σ H (.ref a)) (hx : SqQ K H a xs) (Pv : Nat → L2.St → Hp → Prop) (h0 : ∀ H1, Ex H H1 → Pv 0 σ H1) (hl : ∀ i σ' H', Pv i σ' H' → Ex H H')
    (hs : ∀ i x σ' H', xs[i]? = some x → Pv i σ' H' → g x σ' H' fun σ2 H2 => tu { D with nx := Pv (i + 1), ct := Pv (i + 1), bk := tz D } σ2 H2) (hd : ∀ σ' H', Pv xs.length σ' H' → tz D σ' H') : tSeq (tFor (iSeq K tl) g tu) tz D σ H := s_forQ (D := { D with nx := tz D }) h hx Pv h0 hl hs hd
end
def Flies (C : Addr) (wd : Str) (H : Hp) (E : XK) : Prop := ∀ d H', Ex H H' → H d = none → H' d = some (.xd [("word", .str wd)]) → E (.ref C) (some d) H'
theorem Flies.ext {C : Addr} {wd : Str} {H H1 : Hp} {E : XK} (h : Flies C wd H E) (e : Ex H H1) : Flies C wd H1 E := fun d H' e' n hd => h d H' (e.trans e') (fresh_back e n) hd
abbrev iv (cs : List Int) : List V := cs.map V.int
theorem iv_at {cs : List Int} {i : Nat} {x : V} (h : (iv cs)[i]? = some x) : ∃ c, x = .int c ∧ cs[i]? = some c := by
  rw [List.getElem?_map] at h
  obtain ⟨c, hc, rfl⟩ := Option.map_eq_some_iff.mp h
  exact ⟨c, rfl, hc⟩
def spMany (K : PySem.W.Frag) : Sp := fun vs H Q _ => ∃ (a : Addr) (cs : List Int), vs = [.ref a] ∧ SqQ K H a (iv cs) ∧ Cnt cs ∧ RetV (.int (PR cs.reverse)) H Q
section
variable {P : Program} {w : World} {K : PySem.W.Frag} {mg : Str → Option Value} {base : Heap} {f C : Addr} {fd : FuncData}
abbrev sMany : Stmt := top 12
theorem scMany : FnScope ["counts", "many", "count"] ["counts"] (defScope sMany) := ⟨rfl, rfl, rfl, by decide +kernel, rfl, by decide +kernel, by decide +kernel⟩
theorem ok_many (F : FnP K "how_many" sMany f fd) : FnOk P w K mg base CX0 1 f fd ["counts"] (spMany K) := by
  have nd := scMany.nd
  refine F.ok scMany (fun vs H Q E h => ?_) (fun cdv A outer s H vs Q E hr h => ⟨_, PSs.nox (pss_cons (ps_set (i := 1) nd rfl (.inl rfl) pe_int)
  (pss_cons (ps_for PassesOwn.never rfl (Hs.pi_seq (pv 0)) (pg_name (i := 2) nd rfl (.inl rfl)) (pss_one (ps_aug (i := 1) nd rfl (.inl rfl) (pv 2) Hs.ip_mul)))
  (pss_one (ps_ret (pv 1))))), ?_⟩)
  · obtain ⟨a, cs, rfl, _⟩ := h
    rfl
  · obtain ⟨a, cs, rfl, hS, hC, k⟩ := h
    refine q_asg ev_c fun H1 e1 => ?_
    refine q_forQ (ev_var rfl) (hS.ext e1) (fun i σ' H' => Ex H1 H' ∧ ∃ v2, σ' = [some (.ref a), some (.int (PR (cs.take i).reverse)), v2]) (fun H2 e2 => ⟨e2, none, rfl⟩) (fun i σ' H' p => p.1) (fun i x σ' H' hx p => ?_) (fun σ' H' p => ?_)
    · obtain ⟨e2, v2, rfl⟩ := p
      obtain ⟨c, rfl, hc⟩ := iv_at hx
      obtain ⟨p1, p2⟩ := PR_small (hC.take i)
      obtain ⟨c1, c2⟩ := hC.2 c (List.mem_of_getElem? hc)
      refine ⟨_, rfl, _, rfl, _, _, rfl, rfl, mul64 (by omega) (by omega), ?_⟩
      refine ⟨e2, some (.int c), ?_⟩
      rw [take_rev hc]
      rfl
    · obtain ⟨e2, v2, rfl⟩ := p
      rw [List.length_map, List.take_length]
      exact s_ret (ev_var rfl) fun H3 e3 => k H3 ((e1.trans e2).trans e3)
end
end Hs
namespace Hs
open PySem PySem.Spec PyProof.Rows L2 Evl
/-- the rows rs, tuples at ps -/
def RowsA (H : Hp) (ps : List Addr) (rs : List (List Int)) : Prop := ps.length = rs.length ∧ ∀ (j : Nat) (p : Addr) (r : List Int), ps[j]? = some p → rs[j]? = some r → H p = some (.tup (iv r))
theorem RowsA.keep {H H' : Hp} {ps : List Addr} {rs : List (List Int)} (h : RowsA H ps rs) (e : ∀ p xs, H p = some (.tup xs) → H' p = some (.tup xs)) : RowsA H' ps rs := ⟨h.1, fun j p r hp hr => e _ _ (h.2 j p r hp hr)⟩
theorem RowsA.ext {H H' : Hp} {ps : List Addr} {rs : List (List Int)} (h : RowsA H ps rs) (e : Ex H H') : RowsA H' ps rs := h.keep fun _ _ z => e _ _ z
theorem RowsA.snoc {H : Hp} {ps : List Addr} {rs : List (List Int)} {q : Addr} {r : List Int} (h : RowsA H ps rs) (hq : H q = some (.tup (iv r))) : RowsA H (ps ++ [q]) (rs ++ [r]) := by
  refine ⟨by rw [List.length_append, List.length_append, h.1] <;> rfl, fun j p r' hp hr => ?_⟩
  by_cases hj : j < ps.length
  · rw [List.getElem?_append_left hj] at hp
    rw [List.getElem?_append_left (by rw [← h.1]; exact hj)] at hr
    exact h.2 j p r' hp hr
  · rw [List.getElem?_append_right (by omega)] at hp
    rw [List.getElem?_append_right (by rw [← h.1]; omega), ← h.1] at hr
    have e0 : j - ps.length = 0 := by
      have : j - ps.length < 1 := (List.getElem?_eq_some_iff.mp hp).1
      omega
    rw [e0] at hp hr
    cases hp
    cases hr
    exact hq
theorem RowsA.at {H : Hp} {ps : List Addr} {rs : List (List Int)} {j : Nat} {x : V} (h : RowsA H ps rs) (hx : (ps.map V.ref)[j]? = some x) : ∃ p r, x = .ref p ∧ ps[j]? = some p ∧ rs[j]? = some r ∧ H p = some (.tup (iv r)) := by
  rw [List.getElem?_map] at hx
  obtain ⟨p, hp, rfl⟩ := Option.map_eq_some_iff.mp hx
  have hlt : j < rs.length := by
    rw [← h.1]
    exact (List.getElem?_eq_some_iff.mp hp).1
  exact ⟨p, rs[j], rfl, hp, List.getElem?_eq_getElem hlt, h.2 j p _ hp (List.getElem?_eq_getElem hlt)⟩
/-- what tells the rows: a new list of them -/
def RetR (rs : List (List Int)) (H : Hp) (Q : VK) : Prop := ∀ (l : Addr) (ps : List Addr) (H' : Hp), H l = none → Ex H H' → H' l = some (.lst (ps.map V.ref)) → RowsA H' ps rs → Q (.ref l) H'
def spAllR (K : PySem.W.Frag) (C : Addr) : Sp := fun vs H Q E => ∃ (a : Addr) (m : Int) (cs : List Int), vs = [.ref a, .int m] ∧ SqQ K H a (iv cs) ∧ Cnt cs ∧ (PR cs.reverse > m → Flies C "toomany" H E) ∧ (PR cs.reverse ≤ m → RetR (RR cs.reverse) H Q)
/-- rows1, t of them -/
theorem rows1_next {rs : List (List Int)} {c : Int} {i j : Nat} {r : List Int} (hc : 1 ≤ c) (hj : j < c.toNat) (hr : rs[i]? = some r) : (rows1 rs c).take (i * c.toNat + j + 1) = (rows1 rs c).take (i * c.toNat + j) ++ [r ++ [(j : Int)]] := by
  have e : (rows1 rs c)[i * c.toNat + j]? = some (r ++ [(j : Int)]) := by
    have d1 : (i * c.toNat + j) / c.toNat = i := by
      rw [Nat.mul_comm, Nat.mul_add_div (by omega), Nat.div_eq_of_lt hj]
      rfl
    have d2 : (i * c.toNat + j) % c.toNat = j := by
      rw [Nat.mul_comm, Nat.mul_add_mod, Nat.mod_eq_of_lt hj]
    rw [rows1_at hc, d1, d2, hr] <;> rfl
  rw [List.take_add_one, e] <;> rfl
theorem sz_rows {n : Nat} (h : n ≤ 7776) : n < sizeLine := by
  rw [sizeLine_eq]
  omega
theorem RR_le {l : List Int} (h : Cnt l) : (RR l).length ≤ 7776 := by
  have h1 := RR_len h.2
  obtain ⟨_, h2⟩ := PR_small h
  omega
section
variable {P : Program} {w : World} {K : PySem.W.Frag} {mg : Str → Option Value} {base : Heap} {f C : Addr} {fd : FuncData}
abbrev sAllR : Stmt := top 13
theorem scAllR : FnScope ["counts", "most", "rows", "count", "row", "number"] ["counts", "most"] (defScope sAllR) := ⟨rfl, rfl, rfl, by decide +kernel, rfl, by decide +kernel, by decide +kernel⟩
theorem ok_allR (F : FunD K "all_rows" "all_rows" (defArgs sAllR) (defBody sAllR) (defScope sAllR) [] [("most", .int 200)] f fd) (O_how_many : Own P w K mg base 1 "how_many" ["counts"] (spMany K)) (Er_TooMany : ErrF P w K mg base 1 "TooMany" C "toomany") (g_range : mg "range" = none) :
    FnOk P w K mg base (L2.CX P w) 3 f fd ["counts", "most"] (spAllR K C) := by
  have nd := scAllR.nd
  refine F.ok scAllR (fun vs H Q E h => ?_) (fun cdv A outer s H vs Q E hr h => ⟨_, (pss_cons (ps_if (pt_cmpR op_gt (Hs.pe_own O_how_many hr (by first | decide | omega) (by rfl) (pa_cons (pv 0) pa_nil)) (pv 1) (nomark _)) (pss_one (ps_raise rfl (takes_of rfl rfl rfl rfl) (Hs.pmk_err Er_TooMany hr (by decide) (by rfl)))) pss_nil)
  (pss_cons (ps_set (i := 2) nd rfl (.inl rfl) (pe_lst (pa_cons (pe_tup pa_nil) pa_nil)))
  (pss_cons (ps_for (passes_of rfl) rfl (Hs.pi_seq (pv 0)) (pg_name (i := 3) nd rfl (.inr rfl)) (pss_one (ps_setLc2 (i := 2) (own := [("row", 4), ("number", 5)]) (vs1 := [5]) rfl nd rfl rfl (sw_true rfl rfl rfl (by decide +kernel)) (pi_list (pv 2)) (blkOk_by (N := ["counts", "most", "rows", "count", "row", "number"]) (sc := defScope (Hs.top 13)) (by decide +kernel)) (by decide) (fun _ _ _ _ _ => (pg_name (i := 4) nd rfl (Or.inl rfl))) (fun _ _ _ _ _ => pts_nil) (fun _ _ _ _ _ => (pi_range1 (by rfl) g_range (pa_cons (pv 3) pa_nil))) (fun _ _ _ _ _ => (pg_name (i := 5) nd rfl (Or.inl rfl))) (fun _ _ _ _ _ => pts_nil) (fun _ _ _ _ _ => (pe_tup (Hs.pa_starK (K := K) (pv 4) (pa_cons (pv 5) pa_nil)))))))
  (pss_one (ps_ret (pv 2)))))), ?_⟩)
  · obtain ⟨a, m, cs, rfl, _⟩ := h
    rfl
  · obtain ⟨a, m, cs, rfl, hS, hC, kE, k⟩ := h
    refine q_when (et_test (ev_op (ev_call (ea_cons (ev_var rfl) ea_nil) fun H1 e1 Q' q E' => ⟨a, cs, rfl, hS.ext e1, hC, q⟩) (ev_var rfl) rv_I0)) (fun ht H1 e1 => ?_) (fun ht H1 e1 => ?_)
    · have h0 : PR cs.reverse > m := of_decide_eq_true ht
      exact (kE h0).ext e1
    · have h0 : PR cs.reverse ≤ m := by
        have := of_decide_eq_false ht
        omega
      refine ⟨sz_of (by simp), fun t0 ht0 => ⟨sz_of (by simp), fun l0 hl0 => ?_⟩⟩
      have x1 := Ex.new (o := .tup []) ht0
      have x2 := Ex.new (o := .lst [V.ref t0]) hl0
      have hS1 := hS.ext ((e1.trans x1).trans x2)
      have hl1 := (upd_same (H := upd H1 t0 (.tup [])) (a := l0) (o := .lst [V.ref t0]))
      have ht1 := x2 _ _ (upd_same (H := H1) (a := t0) (o := .tup []))
      have nl0 : H l0 = none := fresh_back e1 (fresh_back x1 hl0)
      have eH := (e1.trans x1).trans x2
      generalize upd (upd H1 t0 (.tup [])) l0 (.lst [V.ref t0]) = H2 at hS1 hl1 ht1 eH ⊢
      show tSeq _ _ _ [some (.ref a), some (.int m), some (.ref l0), none, none, none] H2
      refine q_forQ (ev_var rfl) hS1 (fun i σ' H' => Ex H2 H' ∧ ∃ (l : Addr) (ps : List Addr) (v3 : Option V), σ' = [some (.ref a), some (.int m), some (.ref l), v3, none, none] ∧ H l = none ∧ H' l = some (.lst (ps.map V.ref)) ∧ RowsA H' ps (RR (cs.take i).reverse)) (fun H3 e3 => ⟨e3, l0, [t0], none, rfl, nl0, e3 _ _ hl1, rfl, fun j p r hp hr => ?_⟩) (fun i σ' H' p => p.1) (fun i x σ' H' hx p => ?_) (fun σ' H' p => ?_)
      · cases j with
        | zero =>
          cases hp
          cases hr
          exact e3 _ _ ht1
        | succ j => cases hp
      · obtain ⟨e3, l, ps, v3, rfl, nl, hl, hR⟩ := p
        obtain ⟨c, rfl, hc⟩ := iv_at hx
        obtain ⟨c1, c2⟩ := hC.2 c (List.mem_of_getElem? hc)
        have hCi := hC.take (i + 1)
        rw [take_rev hc] at hCi
        have hlen := RR_le hCi
        refine ⟨_, rfl, l, rfl, ⟨_, sq_of hl⟩, fun D hD => ?_⟩
        have nD : H D = none := fresh_back (eH.trans e3) hD
        have eD := Ex.new (o := .lst []) hD
        generalize hrs : RR (cs.take i).reverse = rs at hR
        have hrl : (rows1 rs c).length ≤ 7776 := by
          rw [← hrs]
          exact hlen
        refine ⟨fun i m H5 => (Ex H' H5 ∧ ∃ qs : List Addr, H5 D = some (.lst (qs.map V.ref)) ∧ RowsA H5 qs ((rows1 rs c).take (i * c.toNat))) ∧ i ≤ rs.length ∧ m = rs.length - i, ⟨_, ⟨eD, [], upd_same, by rw [Nat.zero_mul] <;> rfl, fun j p r hp _ => by cases hp⟩, Nat.zero_le _, rfl⟩, ?_⟩
        rintro i1 m1 H5 ⟨⟨e5, qs, hD5, hq5⟩, hi1, hm1⟩
        have hl5 := e5 _ _ hl
        by_cases hlt : i1 < rs.length
        · obtain ⟨p1, hp1⟩ : ∃ p1, ps[i1]? = some p1 := ⟨_, List.getElem?_eq_getElem (by rw [hR.1]; exact hlt)⟩
          have hat : (ps.map V.ref)[i1]? = some (.ref p1) := by
            rw [List.getElem?_map, hp1] <;> rfl
          refine .inr ⟨⟨_, _, sq_of hl5, hat⟩, fun H6 => Ex H' H6 ∧ ∃ qs : List Addr, H6 D = some (.lst (qs.map V.ref)) ∧ RowsA H6 qs ((rows1 rs c).take ((i1 + 1) * c.toNat)), fun H6 z => ⟨rs.length - (i1 + 1), by omega, z, by omega, rfl⟩, fun x6 H6 hy => ?_⟩
          obtain ⟨rfl, hy⟩ := hy
          have ex6 : some x6 = some (V.ref p1) := (hy _ (sq_of hl5)).symm.trans hat
          cases ex6
          obtain ⟨r1, hr1⟩ : ∃ r1, rs[i1]? = some r1 := ⟨_, List.getElem?_eq_getElem hlt⟩
          have hp6 := e5 _ _ (hR.2 i1 p1 r1 hp1 hr1)
          refine ⟨rfl, ?_⟩
          simp only [tYes, if_true]
          refine ⟨_, rfl, c, rfl, by omega, by omega, ?_⟩
          refine ⟨fun j k H7 => (Ex H' H7 ∧ ∃ qs : List Addr, H7 D = some (.lst (qs.map V.ref)) ∧ RowsA H7 qs ((rows1 rs c).take (i1 * c.toNat + j))) ∧ j ≤ c.toNat ∧ k = c.toNat - j, ⟨_, ⟨e5, qs, hD5, hq5⟩, Nat.zero_le _, rfl⟩, ?_⟩
          rintro j k1 H7 ⟨⟨e7, qs7, hD7, hq7⟩, hj, hk⟩
          by_cases hjl : j < c.toNat
          · refine .inr ⟨hjl, fun H8 => Ex H' H8 ∧ ∃ qs : List Addr, H8 D = some (.lst (qs.map V.ref)) ∧ RowsA H8 qs ((rows1 rs c).take (i1 * c.toNat + (j + 1))), fun H8 z => ⟨c.toNat - (j + 1), by omega, z, by omega, rfl⟩, fun x8 H8 hy8 => ?_⟩
            obtain ⟨rfl, rfl⟩ := hy8
            have hp7 := e7 _ _ (hR.2 i1 p1 r1 hp1 hr1)
            refine ⟨rfl, ?_⟩
            refine ⟨_, rfl, p1, iv r1, rfl, .inl (st_of hp7), _, rfl, ?_, fun q hq => ?_⟩
            · have hb := RR_row (l := (cs.take i).reverse) (r := r1) (by rw [hrs]; exact List.mem_of_getElem? hr1)
              have hc5 := (hC.take i).1
              refine Nat.le_of_lt (sz_rows ?_)
              simp only [List.length_append, List.length_map, List.length_cons, List.length_nil]
              omega
            · have xq := Ex.new (o := .tup (iv r1 ++ [V.int (0 + (j : Int))])) hq
              have nDq : D ≠ q := ne_of_none hD7 hq
              refine ⟨_, xq _ _ hD7, ?_, Ex.mut (e7.trans xq) hD, qs7 ++ [q], ?_, ?_⟩
              · rw [List.length_map, hq7.1, List.length_take]
                exact sz_rows (by omega)
              · rw [upd_same, List.map_append] <;> rfl
              · rw [show i1 * c.toNat + (j + 1) = i1 * c.toNat + j + 1 from rfl, rows1_next c1 hjl hr1]
                have keep : ∀ p xs, upd H8 q (.tup (iv r1 ++ [V.int (0 + (j : Int))])) p = some (.tup xs) → upd (upd H8 q (.tup (iv r1 ++ [V.int (0 + (j : Int))]))) D (.lst (qs7.map V.ref ++ [.ref q])) p = some (.tup xs) := fun p xs z => by
                  rw [upd_ne (ne_of z (xq _ _ hD7) (by intro z; cases z))]
                  exact z
                refine RowsA.snoc ((hq7.ext xq).keep keep) (keep _ _ ?_)
                rw [upd_same, Int.zero_add]
                show some (HO.tup (iv r1 ++ [V.int j])) = some (HO.tup (iv (r1 ++ [(j : Int)])))
                rw [show iv (r1 ++ [(j : Int)]) = iv r1 ++ [V.int j] from List.map_append ..]
          · have ej : j = c.toNat := by omega
            subst ej
            refine .inl ⟨Nat.le_refl _, e7, qs7, hD7, ?_⟩
            rw [Nat.succ_mul]
            exact hq7
        · have ei : i1 = rs.length := by omega
          subst ei
          refine .inl ⟨⟨_, sq_of hl5, by rw [List.length_map, hR.1]; exact Nat.le_refl _⟩, ?_⟩
          refine ⟨e3.trans e5, D, qs, _, rfl, nD, hD5, ?_⟩
          rw [take_rev hc]
          show RowsA H5 qs (rows1 (RR (cs.take i).reverse) c)
          rw [hrs]
          rw [← rows1_len, List.take_length] at hq5
          exact hq5
      · obtain ⟨e3, l, ps, v3, rfl, nl, hl, hR⟩ := p
        rw [List.length_map, List.take_length] at hR
        exact s_ret (ev_var rfl) fun H4 e4 => k h0 l ps H4 nl ((eH.trans e3).trans e4) (e4 _ _ hl) (hR.ext e4)
end
end Hs
namespace Hs
open PySem PySem.Spec PyProof.Rows L2 Evl
/-! ### zip of a list or a tuple with a tuple; reversed -/
def iZipQ (K : PySem.W.Frag) (ta : TA) : TI := fun σ H R => iZipM K ta σ H R ∨ RZ.iZipA K ta σ H R
theorem pi_zipQ {X : Cx} {e e2 : Expr} {ta : TA} {p pos tpos : Pos} {elts : List Expr} {kk : Nat} (hg : Gl X "zip") (hm : X.mg "zip" = none) (ha : PA X [e, e2] ta)
    (hs : starEach [e, e2] X.env = (false, eval e X.env) :: starEach [e2] X.env := by rfl) (hpl : (backTo pos (starEach [e2] X.env)).any (·.1) = false := by rfl) :
    PI X (.Tuple elts kk tpos) (.Call (.Name "zip" p) [e, e2] [] pos) (iZipQ X.K ta) := ⟨fun pins s σ H R I h => h.elim (fun h => (pi_zipM hg hm ha hs hpl).run pins s σ H R I h) fun h => (RZ.pi_zipA hg hm ha hs hpl).run pins s σ H R I h⟩
section
variable {K : PySem.W.Frag} {D : Ends} {σ : L2.St} {H : Hp} {tu tz : TS}
theorem s_zipQ {a b : Addr} {xs ys : List V} {ta tb : TE} {i j : Nat} (ha : Ev ta σ H (.ref a)) (hb : Ev tb σ H (.ref b)) (hx : SqQ K H a xs) (hy : SqT K H b ys) (hl : xs.length = ys.length) (Pv : Nat → L2.St → Hp → Prop) (h0 : ∀ H1, Ex H H1 → Pv 0 σ H1) (he : ∀ i σ' H', Pv i σ' H' → Ex H H')
    (hs : ∀ (k : Nat) (x y : V) σ' H' H'', xs[k]? = some x → ys[k]? = some y → Pv k σ' H' → Ex H' H'' → tu { D with nx := Pv (k + 1), ct := Pv (k + 1), bk := D.nx } ((σ'.set i (some x)).set j (some y)) H'') (hd : ∀ σ' H', Pv xs.length σ' H' → D.nx σ' H') :
    tFor (iZipQ K (tCons ta (tCons tb tNil))) (gTup K 2 (gCons (gName i) (gCons (gName j) gNil))) tu D σ H := by
  rcases hx with hx | hx
  · refine .inl (ha H (Ex.refl H) _ fun H1 e1 => hb H1 e1 _ fun H2 e2 => ⟨a, b, xs, ys, rfl, ex_l (e1.trans e2) hx, ex_t (e1.trans e2) hy, ?_⟩)
    refine ⟨fun k m σ' H' => Pv k σ' H' ∧ k ≤ xs.length ∧ m = xs.length - k, ⟨_, h0 _ (e1.trans e2), Nat.zero_le _, rfl⟩, ?_⟩
    rintro k m σ' H' ⟨p, hk, rfl⟩
    by_cases hlt : k < xs.length
    · have g1 : xs[k]? = some xs[k] := List.getElem?_eq_getElem hlt
      have g2 : ys[k]? = some (ys[k]'(by omega)) := List.getElem?_eq_getElem (by omega)
      have e := he k σ' H' p
      refine .inr ⟨⟨xs, ys, _, _, ex_l e hx, ex_t e hy, g1, g2⟩, Pv (k + 1), fun σ2 H3 p' => ⟨xs.length - (k + 1), by omega, p', hlt, rfl⟩, fun v H3 hv => ?_⟩
      obtain ⟨T, x1, x2, rfl, hT, rfl, f1, f2⟩ := hv
      exact ⟨T, [x1, x2], rfl, st_of upd_same, rfl, _, _, rfl, _, _, rfl, rfl, hs k x1 x2 σ' H' _ (f1 _ (ex_l e hx)) (f2 _ (ex_t e hy)) p (Ex.new hT)⟩
    · have ek : k = xs.length := by omega
      subst ek
      have e := he _ σ' H' p
      exact .inl ⟨⟨xs, ys, ex_l e hx, ex_t e hy, Nat.le_refl _⟩, hd σ' H' p⟩
  · refine .inr (ha H (Ex.refl H) _ fun H1 e1 => hb H1 e1 _ fun H2 e2 => ⟨a, b, xs, ys, rfl, .inr ⟨ex_t (e1.trans e2) hx, ex_t (e1.trans e2) hy, ?_⟩⟩)
    refine ⟨fun k m σ' H' => Pv k σ' H' ∧ k ≤ xs.length ∧ m = xs.length - k, ⟨_, h0 _ (e1.trans e2), Nat.zero_le _, rfl⟩, ?_⟩
    rintro k m σ' H' ⟨p, hk, rfl⟩
    by_cases hlt : k < xs.length
    · have g1 : xs[k]? = some xs[k] := List.getElem?_eq_getElem hlt
      have g2 : ys[k]? = some (ys[k]'(by omega)) := List.getElem?_eq_getElem (by omega)
      have e := he k σ' H' p
      refine .inr ⟨⟨xs, ys, _, _, ex_t e hx, ex_t e hy, g1, g2⟩, Pv (k + 1), fun σ2 H3 p' => ⟨xs.length - (k + 1), by omega, p', hlt, rfl⟩, fun v H3 hv => ?_⟩
      obtain ⟨T, x1, x2, rfl, hT, rfl, f1, f2⟩ := hv
      exact ⟨T, [x1, x2], rfl, st_of upd_same, rfl, _, _, rfl, _, _, rfl, rfl, hs k x1 x2 σ' H' _ (f1 _ (ex_t e hx)) (f2 _ (ex_t e hy)) p (Ex.new hT)⟩
    · have ek : k = xs.length := by omega
      subst ek
      have e := he _ σ' H' p
      exact .inl ⟨⟨xs, ys, ex_t e hx, ex_t e hy, .inl (Nat.le_refl _)⟩, hd σ' H' p⟩
theorem s_revQ {H0 : Hp} {a : Addr} {xs : List V} {te : TE} {g : TG} (ha : Ev te σ H (.ref a)) (hx : SqQ K H0 a xs) (e0 : Ex H0 H) (Pv : Nat → L2.St → Hp → Prop) (h0 : ∀ H1, Ex H H1 → Pv 0 σ H1) (he : ∀ i σ' H', Pv i σ' H' → Ex H0 H')
    (hs : ∀ (k : Nat) (x : V) σ' H', k < xs.length → xs[xs.length - 1 - k]? = some x → Pv k σ' H' → g x σ' H' fun σ2 H2 => tu { D with nx := Pv (k + 1), ct := Pv (k + 1), bk := D.nx } σ2 H2) (hd : ∀ σ' H', Pv xs.length σ' H' → D.nx σ' H') :
    tFor (RT.iRevA K te) g tu D σ H := by
  refine ha H (Ex.refl H) _ fun H1 e1 => ⟨a, xs, rfl, ?_⟩
  rcases hx with hx | hx
  · exact .inl ⟨ex_l (e0.trans e1) hx, RT.for_Itv Pv (h0 _ e1) (fun i σ' H' p => ex_l (he i σ' H' p) hx) hs hd⟩
  · exact .inr ⟨ex_t (e0.trans e1) hx, RT.for_ItvT Pv (h0 _ e1) (fun i σ' H' p => ex_t (he i σ' H' p) hx) hs hd⟩
end
def GoodR (cs r : List Int) : Prop := r.length = cs.length ∧ Below cs r cs.length
def spNum (K : PySem.W.Frag) (C : Addr) : Sp := fun vs H Q E => ∃ (a b : Addr) (cs r : List Int), vs = [.ref a, .ref b] ∧ SqQ K H a (iv cs) ∧ SqT K H b (iv r) ∧ Cnt cs ∧ (¬ GoodR cs r → Flies C "badsetting" H E) ∧ (GoodR cs r → RetV (.int (nums cs r cs.length)) H Q)
def spAtR (K : PySem.W.Frag) (C : Addr) : Sp := fun vs H Q E => ∃ (a : Addr) (n : Int) (cs : List Int), vs = [.ref a, .int n] ∧ SqQ K H a (iv cs) ∧ Cnt cs ∧ (¬ (0 ≤ n ∧ n < PR cs.reverse) → Flies C "badsetting" H E) ∧ (0 ≤ n ∧ n < PR cs.reverse → RetU (iv (rowR cs.reverse n)) H Q)
theorem below_next {cs r : List Int} {i : Nat} {c d : Int} (h : Below cs r i) (hc : cs[i]? = some c) (hd : r[i]? = some d) (h1 : 0 ≤ d) (h2 : d < c) : Below cs r (i + 1) := fun k c' d' hk hc' hd' => by
  by_cases e : k = i
  · subst e
    rw [hc] at hc'
    rw [hd] at hd'
    cases hc'
    cases hd'
    exact ⟨h1, h2⟩
  · exact h k c' d' (by omega) hc' hd'
section
variable {P : Program} {w : World} {K : PySem.W.Frag} {mg : Str → Option Value} {base : Heap} {f C : Addr} {fd : FuncData}
abbrev sNum : Stmt := top 14
theorem scNum : FnScope ["counts", "row", "place", "count", "number"] ["counts", "row"] (defScope sNum) := ⟨rfl, rfl, rfl, by decide +kernel, rfl, by decide +kernel, by decide +kernel⟩
theorem ok_num (F : FnP K "row_number" sNum f fd) (Er_BadSetting : ErrF P w K mg base 1 "BadSetting" C "badsetting") (g_zip : mg "zip" = none) (g_len : mg "len" = none) :
    FnOk P w K mg base (L2.CX P w) 3 f fd ["counts", "row"] (spNum K C) := by
  have nd := scNum.nd
  refine F.ok scNum (fun vs H Q E h => ?_) (fun cdv A outer s H vs Q E hr h => ⟨_, (pss_cons (ps_if (pt_cmpR op_ne (pe_callB (r := Evl.rLenS K) call_len_seq (by rfl) g_len PySem.boot_len (pa_cons (pv 1) pa_nil)) (pe_callB (r := Evl.rLenS K) call_len_seq (by rfl) g_len PySem.boot_len (pa_cons (pv 0) pa_nil)) (nomark _)) (pss_one (ps_raise rfl (takes_of rfl rfl rfl rfl) (Hs.pmk_err Er_BadSetting hr (by decide) (by rfl)))) pss_nil)
  (pss_cons (ps_set (i := 2) nd rfl (.inl rfl) pe_int)
  (pss_cons (ps_for (passes_of rfl) rfl (Hs.pi_zipQ (by rfl) g_zip (pa_cons (pv 0) (pa_cons (pv 1) pa_nil))) (pg_tup rfl (pgs_cons (pg_name (i := 3) nd rfl (.inl rfl)) (pgs_cons (pg_name (i := 4) nd rfl (.inl rfl)) pgs_nil))) (pss_cons (ps_if (PW.pt (pw_or (pt_cmpR op_lt (pv 4) pe_int (nomark _)) (pw_or1 (pt_cmpR op_ge (pv 4) (pv 3) (nomark _))))) (pss_one (ps_raise rfl (takes_of rfl rfl rfl rfl) (Hs.pmk_err Er_BadSetting hr (by decide) (by rfl)))) pss_nil)
  (pss_one (ps_set (i := 2) nd rfl (.inl rfl) (pe_op op_add (pe_op op_mulW (pv 2) (pv 3)) (pv 4))))))
  (pss_one (ps_ret (pv 2)))))), ?_⟩)
  · obtain ⟨a, b, cs, r, rfl, _⟩ := h
    rfl
  · obtain ⟨a, b, cs, r, rfl, hS, hR, hC, kE, k⟩ := h
    refine q_when (et_test (ev_op (ev_lenQ (ev_var rfl) (.inr hR)) (ev_lenQ (ev_var rfl) hS) (rv_ne rfl))) (fun ht H1 e1 => ?_) (fun ht H1 e1 => ?_)
    · refine (kE fun g => ?_).ext e1
      have g1 := g.1
      simp [g1] at ht
    · have hlen : r.length = cs.length := by
        simp at ht
        omega
      refine q_asg ev_c fun H2 e2 => ?_
      have e12 := e1.trans e2
      refine s_zipQ (D := { nx := _, rt := _ }) (ev_var rfl) (ev_var rfl) (hS.ext e12) (ex_t e12 hR) (by rw [List.length_map, List.length_map, hlen]) (fun i σ' H' => Ex H2 H' ∧ i ≤ cs.length ∧ Below cs r i ∧ ∃ v3 v4, σ' = [some (.ref a), some (.ref b), some (.int (nums cs r i)), v3, v4]) (fun H3 e3 => ⟨e3, Nat.zero_le _, fun k c d hk => absurd hk (Nat.not_lt_zero _), none, none, rfl⟩) (fun i σ' H' p => p.1) (fun i x y σ' H' H3 hx hy p e3 => ?_) (fun σ' H' p => ?_)
      · obtain ⟨e4, hi, hB, v3, v4, rfl⟩ := p
        obtain ⟨c, rfl, hc⟩ := iv_at hx
        obtain ⟨d, rfl, hd⟩ := iv_at hy
        have hil : i < cs.length := (List.getElem?_eq_some_iff.mp hc).1
        obtain ⟨c1, c2⟩ := hC.2 c (List.mem_of_getElem? hc)
        refine q_when (et_or (et_test (ev_op (ev_var rfl) ev_c rv_I0)) fun _ => et_test (ev_op (ev_var rfl) (ev_var rfl) rv_I0)) (fun ht H5 e5 => ?_) (fun ht H5 e5 => ?_)
        · refine (kE fun g => ?_).ext (((e12.trans e4).trans e3).trans e5)
          obtain ⟨d1, d2⟩ := g.2 i c d hil hc hd
          simp at ht
          omega
        · have hdd : 0 ≤ d ∧ d < c := by
            simp at ht
            omega
          obtain ⟨n1, n2⟩ := nums_bd (k := i) hC.2 (by omega) (by omega) hB
          have n3 := six_le (n := i) (by have := hC.1; omega)
          refine s_asg (ev_op (ev_op (ev_var rfl) (ev_var rfl) (rv_I (mul64 (by omega) (by omega)))) (ev_var rfl) rv_I0) fun H6 e6 => ⟨((e4.trans e3).trans e5).trans e6, hil, below_next hB hc hd hdd.1 hdd.2, some (.int c), some (.int d), ?_⟩
          show _ = [_, _, some (V.int (nums cs r i * cs.getD i 0 + r.getD i 0)), _, _]
          rw [List.getD_eq_getElem?_getD, List.getD_eq_getElem?_getD, hc, hd]
          rfl
      · obtain ⟨e4, hi, hB, v3, v4, rfl⟩ := p
        rw [List.length_map] at hB ⊢
        exact s_ret (ev_var rfl) fun H5 e5 => k ⟨hlen, hB⟩ H5 ((e12.trans e4).trans e5)
abbrev sAtR : Stmt := top 15
theorem scAtR : FnScope ["counts", "number", "rest", "backward", "count", "last"] ["counts", "number"] (defScope sAtR) := ⟨rfl, rfl, rfl, by decide +kernel, rfl, by decide +kernel, by decide +kernel⟩
theorem ok_atR (F : FnP K "row_at" sAtR f fd) (O_how_many : Own P w K mg base 1 "how_many" ["counts"] (spMany K)) (Er_BadSetting : ErrF P w K mg base 1 "BadSetting" C "badsetting") (g_reversed : mg "reversed" = none) (g_divmod : mg "divmod" = none) (g_tuple : mg "tuple" = none) :
    FnOk P w K mg base (L2.CX P w) 3 f fd ["counts", "number"] (spAtR K C) := by
  have nd := scAtR.nd
  refine F.ok scAtR (fun vs H Q E h => ?_) (fun cdv A outer s H vs Q E hr h => ⟨_, (pss_cons (ps_if (PW.pt (pw_or (pt_cmpR op_lt (pv 1) pe_int (nomark _)) (pw_or1 (pt_cmpR op_ge (pv 1) (Hs.pe_own O_how_many hr (by first | decide | omega) (by rfl) (pa_cons (pv 0) pa_nil)) (nomark _))))) (pss_one (ps_raise rfl (takes_of rfl rfl rfl rfl) (Hs.pmk_err Er_BadSetting hr (by decide) (by rfl)))) pss_nil)
  (pss_cons (ps_set (i := 2) nd rfl (.inl rfl) (pv 1))
  (pss_cons (ps_set (i := 3) nd rfl (.inl rfl) (pe_lst pa_nil))
  (pss_cons (ps_for (passes_of rfl) rfl (RT.pi_revA (by rfl) g_reversed (pv 0)) (pg_name (i := 4) nd rfl (.inl rfl)) (pss_cons (ps_asg (pe_callB call_divmod (by rfl) g_divmod (by decide +kernel) (pa_cons (pv 2) (pa_cons (pv 4) pa_nil))) (pg_tup rfl (pgs_cons (pg_name (i := 2) nd rfl (.inl rfl)) (pgs_cons (pg_name (i := 5) nd rfl (.inl rfl)) pgs_nil))))
  (pss_one (ps_expr (pe_bm PySem.F.plainAttrs_list PySem.F.slot_list_append PySem.F.type_list_append mt_append (pv 3) (pa_cons (pv 5) pa_nil))))))
  (pss_one (ps_ret (RT.pe_tupRev rfl (by rfl) g_tuple (by rfl) g_reversed (pv 3)))))))), ?_⟩)
  · obtain ⟨a, n, cs, rfl, _⟩ := h
    rfl
  · obtain ⟨a, n, cs, rfl, hS, hC, kE, k⟩ := h
    refine q_when (et_or (et_test (ev_op (ev_var rfl) ev_c rv_I0)) fun _ => et_test (ev_op (ev_var rfl) (ev_call (ea_cons (ev_var rfl) ea_nil) fun H1 e1 Q' q E' => ⟨a, cs, rfl, hS.ext e1, hC, q⟩) rv_I0)) (fun ht H1 e1 => ?_) (fun ht H1 e1 => ?_)
    · refine (kE fun g => ?_).ext e1
      simp at ht
      omega
    · have hn : 0 ≤ n ∧ n < PR cs.reverse := by
        simp at ht
        omega
      obtain ⟨p1, p2⟩ := PR_small hC.rev
      refine q_asg (ev_var rfl) fun H2 e2 => ?_
      refine ⟨sz_of (by simp), fun bl hbl => ?_⟩
      have e12 := e1.trans e2
      have x1 := Ex.new (o := .lst []) hbl
      have hbl2 := upd_same (H := H2) (a := bl) (o := .lst [])
      have nbl : H bl = none := fresh_back e12 hbl
      show tSeq _ _ _ [some (.ref a), some (.int n), some (.int n), some (.ref bl), none, none] (upd H2 bl (.lst []))
      refine s_revQ (D := { nx := _, rt := _ }) (ev_var rfl) (hS.ext e12) x1 (fun i σ' H' => Ex H2 H' ∧ ∃ v4 v5, σ' = [some (.ref a), some (.int n), some (.int (restI cs.reverse n i)), some (.ref bl), v4, v5] ∧ H' bl = some (.lst (iv (digs (cs.reverse.take i) n)))) (fun H3 e3 => ⟨x1.trans e3, none, none, by cases cs.reverse <;> rfl, e3 _ _ hbl2⟩) (fun i σ' H' p => p.1) (fun i x σ' H' hi hx p => ?_) (fun σ' H' p => ?_)
      · obtain ⟨e3, v4, v5, rfl, hb3⟩ := p
        obtain ⟨c, rfl, hc⟩ := iv_at hx
        rw [List.length_map] at hi hc
        have hcr : cs.reverse[i]? = some c := by
          rw [List.getElem?_reverse hi]
          exact hc
        obtain ⟨c1, c2⟩ := hC.2 c (List.mem_of_getElem? hc)
        obtain ⟨r1, r2⟩ := rest_bd (l := cs.reverse) (n := n) (i := i) hC.rev.2 hn.1
        obtain ⟨s1, s2⟩ := digs_step (n := n) hcr
        refine ⟨_, rfl, _, rfl, _, _, rfl, ⟨by omega, by omega⟩, fun p hp => ⟨p, _, rfl, st_of upd_same, rfl, _, _, rfl, _, _, rfl, rfl, ?_⟩⟩
        have xp := Ex.new (o := .tup [V.int (restI cs.reverse n i / c), V.int (restI cs.reverse n i % c)]) hp
        have hb4 := xp _ _ hb3
        refine ⟨_, rfl, .inl ⟨rfl, _, sq_of hb4⟩, _, rfl, bl, _, _, rfl, rfl, hb4, ?_, ?_⟩
        · rw [List.length_map, digs_len, List.length_take]
          have := hC.1
          exact sz_rows (by omega)
        · refine ⟨Ex.mut (e3.trans xp) hbl, some (.int c), some (.int (restI cs.reverse n i % c)), ?_, ?_⟩
          · rw [s2]
            rfl
          · rw [upd_same, s1]
            show some (HO.lst (iv (digs (cs.reverse.take i) n) ++ [V.int (restI cs.reverse n i % c)])) = some (HO.lst (iv (digs (cs.reverse.take i) n ++ [restI cs.reverse n i % c])))
            rw [show iv (digs (cs.reverse.take i) n ++ [restI cs.reverse n i % c]) = iv (digs (cs.reverse.take i) n) ++ [V.int (restI cs.reverse n i % c)] from List.map_append ..]
      · obtain ⟨e3, v4, v5, rfl, hb3⟩ := p
        rw [List.length_map, ← List.length_reverse (as := cs), List.take_length] at hb3
        refine ⟨_, rfl, bl, _, rfl, sq_of hb3, fun q hq => k hn q _ (fresh_back (e12.trans e3) hq) ((e12.trans e3).trans (Ex.new hq)) ?_⟩
        rw [upd_same, ← List.map_reverse] <;> rfl
end
end Hs
namespace Hs
open PySem PySem.Spec PyProof.Rows L2 Evl
theorem bag_ne {H : Hp} {b l p : Addr} {ns : List Int} {n : Nat} (B : BagAt H b l ns n) (hp : H p = none) : p ≠ b := fun z => by
  obtain ⟨i, y, s, c, h, _⟩ := B.ex
  rw [← z, hp] at h
  cases h
def spOne (K : PySem.W.Frag) : Sp := fun vs H Q _ => ∃ (b l a : Addr) (ns : List Int) (n : Nat) (xs : List V), vs = [.ref b, .ref a] ∧ BagAt H b l ns n ∧ n < 900000 ∧ H a = some (.lst xs) ∧ a ≠ b ∧ 0 < xs.length ∧ xs.length ≤ 1000 ∧
  ∀ (v : V) (H' : Hp), v ∈ xs → BagAt H' b l ns (n + 1) → But H H' b → Q v H'
def spProd (K : PySem.W.Frag) : Sp := fun vs H Q _ => ∃ (a : Addr) (cs : List Int), vs = [.ref a] ∧ SqL K H a (iv cs) ∧ Cnt cs ∧ RetV (.int (PR cs.reverse)) H Q
def spRowsL (K : PySem.W.Frag) : Sp := fun vs H Q _ => ∃ (a : Addr) (cs : List Int), vs = [.ref a] ∧ SqL K H a (iv cs) ∧ Cnt cs ∧ RetR (RR cs.reverse) H Q
section
variable {P : Program} {w : World} {K : PySem.W.Frag} {mg : Str → Option Value} {base : Heap} {f : Addr} {fd : FuncData}
abbrev sOne : Stmt := top 19
theorem scOne : FnScope ["_law_bag_here", "_law_some"] ["_law_bag_here", "_law_some"] (defScope sOne) := ⟨rfl, rfl, rfl, by decide +kernel, rfl, by decide +kernel, by decide +kernel⟩
theorem ok_one (F : FnP K "_law_one" sOne f fd) (O__law_pull : Own P w K mg base 1 "_law_pull" ["_law_bag_here", "_law_many"] spPull) (g_len : mg "len" = none) : FnOk P w K mg base CX0 2 f fd ["_law_bag_here", "_law_some"] (spOne K) := by
  have nd := scOne.nd
  refine F.ok scOne (fun vs H Q E h => ?_) (fun cdv A outer s H vs Q E hr h => ⟨_, PSs.nox (pss_one (ps_ret (pe_ix (r := rIxL K) ix_list (pv 1) (Hs.pe_own O__law_pull hr (by first | decide | omega) (by rfl) (pa_cons (pv 0) (pa_cons (pe_callB (r := Evl.rLenS K) call_len_seq (by rfl) g_len PySem.boot_len (pa_cons (pv 1) pa_nil)) pa_nil))) (fun _ _ => rfl)))), ?_⟩)
  · obtain ⟨b, l, a, ns, n, xs, rfl, _⟩ := h
    rfl
  · obtain ⟨b, l, a, ns, n, xs, rfl, B, hn, ha, hne, h0, h1, k⟩ := h
    refine ⟨_, rfl, _, rfl, _, rfl, a, xs, rfl, .inl (sq_of ha), b, l, ns, n, _, rfl, B, by omega, by omega, by omega, fun v H1 v0 v1 B1 b1 => ?_⟩
    have hi : v.toNat < xs.length := by omega
    have hat : atI xs v = some xs[v.toNat] := by
      have e : ((v.toNat : Nat) : Int) = v := by omega
      have q := atI_nat (xs := xs) (j := v.toNat) (List.getElem?_eq_getElem hi)
      rw [e] at q
      exact q
    exact ⟨a, xs, v, _, rfl, rfl, sq_of (b1 _ _ ha hne), hat, k _ H1 (List.getElem_mem hi) B1 b1⟩
abbrev sProd : Stmt := top 23
theorem scProd : FnScope ["_law_counts", "_law_found", "_law_many"] ["_law_counts"] (defScope sProd) := ⟨rfl, rfl, rfl, by decide +kernel, rfl, by decide +kernel, by decide +kernel⟩
theorem ok_prod (F : FnP K "_law_product" sProd f fd) : FnOk P w K mg base CX0 1 f fd ["_law_counts"] (spProd K) := by
  have nd := scProd.nd
  refine F.ok scProd (fun vs H Q E h => ?_) (fun cdv A outer s H vs Q E hr h => ⟨_, PSs.nox (pss_cons (ps_set (i := 1) nd rfl (.inl rfl) pe_int)
  (pss_cons (ps_for PassesOwn.never rfl (pi_list (pv 0)) (pg_name (i := 2) nd rfl (.inl rfl)) (pss_one (ps_set (i := 1) nd rfl (.inl rfl) (pe_op op_mulW (pv 1) (pv 2)))))
  (pss_one (ps_ret (pv 1))))), ?_⟩)
  · obtain ⟨a, cs, rfl, _⟩ := h
    rfl
  · obtain ⟨a, cs, rfl, hS, hC, k⟩ := h
    refine q_asg ev_c fun H1 e1 => ?_
    refine q_forLn (ev_var rfl) (ex_l e1 hS) (fun i σ' H' => Ex H1 H' ∧ ∃ v2, σ' = [some (.ref a), some (.int (PR (cs.take i).reverse)), v2]) (fun H2 e2 => ⟨e2, none, rfl⟩) (fun i σ' H' _ p => ex_l (e1.trans p.1) hS) (fun i x σ' H' hx p => ?_) (fun σ' H' p => ?_)
    · obtain ⟨e2, v2, rfl⟩ := p
      obtain ⟨c, rfl, hc⟩ := iv_at hx
      obtain ⟨p1, p2⟩ := PR_small (hC.take i)
      obtain ⟨c1, c2⟩ := hC.2 c (List.mem_of_getElem? hc)
      refine s_asg (ev_op (ev_var rfl) (ev_var rfl) (rv_I (mul64 (by omega) (by omega)))) fun H3 e3 => ⟨e2.trans e3, some (.int c), ?_⟩
      rw [take_rev hc]
      rfl
    · obtain ⟨e2, v2, rfl⟩ := p
      rw [List.length_map, List.take_length]
      exact s_ret (ev_var rfl) fun H3 e3 => k H3 ((e1.trans e2).trans e3)
abbrev sRowsL : Stmt := top 24
theorem scRowsL : FnScope ["_law_counts", "_law_found", "_law_many", "_law_longer", "_law_row", "_law_at"] ["_law_counts"] (defScope sRowsL) := ⟨rfl, rfl, rfl, by decide +kernel, rfl, by decide +kernel, by decide +kernel⟩
theorem RowsA.app {H : Hp} {ps qs : List Addr} {rs ts : List (List Int)} (h1 : RowsA H ps rs) (h2 : RowsA H qs ts) : RowsA H (ps ++ qs) (rs ++ ts) := by
  refine ⟨by rw [List.length_append, List.length_append, h1.1, h2.1], fun j p r hp hr => ?_⟩
  by_cases hj : j < ps.length
  · rw [List.getElem?_append_left hj] at hp
    rw [List.getElem?_append_left (by rw [← h1.1]; exact hj)] at hr
    exact h1.2 j p r hp hr
  · rw [List.getElem?_append_right (by omega)] at hp
    rw [List.getElem?_append_right (by rw [← h1.1]; omega), ← h1.1] at hr
    exact h2.2 _ p r hp hr
/-- the rows of one row -/
def rowX (r : List Int) (n : Nat) : List (List Int) := (List.range n).map fun i : Nat => r ++ [(i : Int)]
theorem rowX_succ {r : List Int} {n : Nat} : rowX r (n + 1) = rowX r n ++ [r ++ [(n : Int)]] := by
  unfold rowX
  rw [List.range_succ, List.map_append] <;> rfl
theorem rows1_snoc {rs : List (List Int)} {r : List Int} {c : Int} : rows1 (rs ++ [r]) c = rows1 rs c ++ rowX r c.toNat := by
  unfold rows1 rowX
  rw [List.flatMap_append]
  simp
theorem ok_rowsL (F : FnP K "_law_rows" sRowsL f fd) (g_range : mg "range" = none) : FnOk P w K mg base CX0 1 f fd ["_law_counts"] (spRowsL K) := by
  have nd := scRowsL.nd
  refine F.ok scRowsL (fun vs H Q E h => ?_) (fun cdv A outer s H vs Q E hr h => ⟨_, PSs.nox (pss_cons (ps_set (i := 1) nd rfl (.inl rfl) (pe_lst (pa_cons (pe_tup pa_nil) pa_nil)))
  (pss_cons (ps_for PassesOwn.never rfl (pi_list (pv 0)) (pg_name (i := 2) nd rfl (.inl rfl)) (pss_cons (ps_set (i := 3) nd rfl (.inl rfl) (pe_lst pa_nil))
  (pss_cons (ps_for PassesOwn.never rfl (pi_list (pv 1)) (pg_name (i := 4) nd rfl (.inr rfl)) (pss_one (ps_expr (pe_bm PySem.F.plainAttrs_list PySem.F.slot_list_extend PySem.F.type_list_extend mt_extend (pv 3) (pa_cons (pe_lc (own := [("_law_at", 5)]) rfl nd (pi_range1 (by rfl) g_range (pa_cons (pv 2) pa_nil)) (blkOk_by (N := ["_law_counts", "_law_found", "_law_many", "_law_longer", "_law_row", "_law_at"]) (sc := defScope (Hs.top 24)) (by decide +kernel)) (fun _ _ _ _ _ => (pg_name (i := 5) nd rfl (Or.inl rfl))) (fun _ _ _ _ _ => pts_nil) (fun _ _ _ _ _ => (pe_op (r := rCatA K) op_catA (pv 4) (pe_tup (pa_cons (pv 5) pa_nil))))) pa_nil)))))
  (pss_one (ps_set (i := 1) nd rfl (.inl rfl) (pv 3))))))
  (pss_one (ps_ret (pv 1))))), ?_⟩)
  · obtain ⟨a, cs, rfl, _⟩ := h
    rfl
  · obtain ⟨a, cs, rfl, hS, hC, k⟩ := h
    refine ⟨sz_of (by simp), fun t0 ht0 => ⟨sz_of (by simp), fun l0 hl0 => ?_⟩⟩
    have x1 := Ex.new (o := .tup []) ht0
    have x2 := Ex.new (o := .lst [V.ref t0]) hl0
    have hl1 := (upd_same (H := upd H t0 (.tup [])) (a := l0) (o := .lst [V.ref t0]))
    have ht1 := x2 _ _ (upd_same (H := H) (a := t0) (o := .tup []))
    have nl0 : H l0 = none := fresh_back x1 hl0
    have eH := x1.trans x2
    generalize upd (upd H t0 (.tup [])) l0 (.lst [V.ref t0]) = H2 at hl1 ht1 eH ⊢
    show tSeq _ _ _ [some (.ref a), some (.ref l0), none, none, none, none] H2
    refine q_forLn (ev_var rfl) (ex_l eH hS) (fun i σ' H' => Ex H2 H' ∧ ∃ (l : Addr) (ps : List Addr) (v2 v3 v4 : Option V), σ' = [some (.ref a), some (.ref l), v2, v3, v4, none] ∧ H l = none ∧ H' l = some (.lst (ps.map V.ref)) ∧ RowsA H' ps (RR (cs.take i).reverse)) (fun H3 e3 => ⟨e3, l0, [t0], none, none, none, rfl, nl0, e3 _ _ hl1, rfl, fun j p r hp hr => ?_⟩) (fun i σ' H' _ p => ex_l (eH.trans p.1) hS) (fun i x σ' H' hx p => ?_) (fun σ' H' p => ?_)
    · cases j with
      | zero =>
        cases hp
        cases hr
        exact e3 _ _ ht1
      | succ j => cases hp
    · obtain ⟨e3, l, ps, v2, v3, v4, rfl, nl, hl, hR⟩ := p
      obtain ⟨c, rfl, hc⟩ := iv_at hx
      obtain ⟨c1, c2⟩ := hC.2 c (List.mem_of_getElem? hc)
      have hCi := hC.take (i + 1)
      rw [take_rev hc] at hCi
      have hlen := RR_le hCi
      refine ⟨sz_of (by simp), fun lg hlg => ?_⟩
      have eL := Ex.new (o := .lst []) hlg
      have nlg : H lg = none := fresh_back (eH.trans e3) hlg
      generalize hrs : RR (cs.take i).reverse = rs at hR
      have hrl : (rows1 rs c).length ≤ 7776 := by
        rw [← hrs]
        exact hlen
      have hlgL : upd H' lg (.lst []) lg = some (.lst ([].map V.ref)) := upd_same
      generalize hH4 : upd H' lg (.lst []) = H4 at eL hlgL ⊢
      show tSeq _ _ _ [some (.ref a), some (.ref l), some (.int c), some (.ref lg), v4, none] H4
      refine q_forLn (ev_var rfl) (sq_of (eL _ _ hl)) (fun j σ' H5 => Ex H' H5 ∧ ∃ (qs : List Addr) (v4 : Option V), σ' = [some (.ref a), some (.ref l), some (.int c), some (.ref lg), v4, none] ∧ H5 lg = some (.lst (qs.map V.ref)) ∧ RowsA H5 qs (rows1 (rs.take j) c)) (fun H5 e5 => ⟨eL.trans e5, [], v4, rfl, e5 _ _ hlgL, rfl, fun j p r hp _ => by cases hp⟩) (fun j σ' H5 _ p => sq_of (p.1 _ _ hl)) (fun j x σ' H5 hx p => ?_) (fun σ' H5 p => ?_)
      · obtain ⟨e5, qs, v4', rfl, hlg5, hq5⟩ := p
        obtain ⟨p1, r1, rfl, hp1, hr1, hp5⟩ := hR.at hx
        have hjl : j < rs.length := (List.getElem?_eq_some_iff.mp hr1).1
        have hb := RR_row (l := (cs.take i).reverse) (r := r1) (by rw [hrs]; exact List.mem_of_getElem? hr1)
        have hc5 := (hC.take i).1
        refine ⟨_, rfl, .inl ⟨rfl, _, sq_of hlg5⟩, _, rfl, c, rfl, by omega, by omega, fun D hD => ?_⟩
        have nDg : lg ≠ D := ne_of_none hlg5 hD
        refine lc_range (lo := 0) (n := c.toNat) (fun t H6 => Ex H5 H6 ∧ ∃ ws : List Addr, H6 D = some (.lst (ws.map V.ref)) ∧ RowsA H6 ws (rowX r1 t)) ⟨Ex.new hD, [], upd_same, rfl, fun j p r hp _ => by cases hp⟩ (fun t H6 ht p => ⟨rfl, ?_⟩) (fun H6 p => ?_)
        · obtain ⟨e6, ws, hD6, hw6⟩ := p
          have hp6 := e6 _ _ (e5 _ _ hp5)
          have fin : ∀ (q : Addr) (H7 : Hp), Ex H6 H7 → H7 q = some (.tup (iv (r1 ++ [(t : Int)]))) → ∃ acc, H7 D = some (.lst acc) ∧ acc.length < sizeLine ∧ (Ex H5 (upd H7 D (.lst (acc ++ [.ref q]))) ∧ ∃ ws : List Addr, upd H7 D (.lst (acc ++ [.ref q])) D = some (.lst (ws.map V.ref)) ∧ RowsA (upd H7 D (.lst (acc ++ [.ref q]))) ws (rowX r1 (t + 1))) := fun q H7 e7 hq => by
            have keep : ∀ p xs, H7 p = some (.tup xs) → upd H7 D (.lst (ws.map V.ref ++ [.ref q])) p = some (.tup xs) := fun p xs z => by
              rw [upd_ne (ne_of z (e7 _ _ hD6) (by intro z; cases z))]
              exact z
            refine ⟨_, e7 _ _ hD6, ?_, Ex.mut (e6.trans e7) hD, ws ++ [q], ?_, ?_⟩
            · rw [List.length_map, hw6.1]
              unfold rowX
              rw [List.length_map, List.length_range]
              exact sz_rows (by omega)
            · rw [upd_same, List.map_append] <;> rfl
            · rw [rowX_succ]
              exact RowsA.snoc ((hw6.ext e7).keep keep) (keep _ _ hq)
          refine ⟨_, rfl, _, rfl, sz_of (by simp), fun q hq => ⟨p1, q, iv r1, _, rfl, rfl, st_of ((Ex.new hq) _ _ hp6), st_of upd_same, ?_, fun hz => ?_, fun _ hz => (by cases hz), fun hz _ q2 hq2 => ?_⟩⟩
          · refine Nat.le_of_lt (sz_rows ?_)
            simp only [List.length_map, List.length_cons, List.length_nil]
            omega
          · refine fin q _ (Ex.new hq) ?_
            have hr0 : r1 = [] := List.map_eq_nil_iff.mp hz
            rw [upd_same, hr0, Int.zero_add] <;> rfl
          · refine fin q2 _ ((Ex.new hq).trans (Ex.new hq2)) ?_
            rw [upd_same, Int.zero_add]
            show some (HO.tup (iv r1 ++ [V.int t])) = some (HO.tup (iv (r1 ++ [(t : Int)])))
            rw [show iv (r1 ++ [(t : Int)]) = iv r1 ++ [V.int t] from List.map_append ..]
        · obtain ⟨e6, ws, hD6, hw6⟩ := p
          have hlg6 := e6 _ _ hlg5
          have l1 : qs.length ≤ 7776 := by
            rw [hq5.1, rows1_len]
            rw [rows1_len] at hrl
            have : (rs.take j).length * c.toNat ≤ rs.length * c.toNat := Nat.mul_le_mul_right _ (by rw [List.length_take]; omega)
            omega
          have l2 : ws.length ≤ 6 := by
            rw [hw6.1]
            unfold rowX
            rw [List.length_map, List.length_range]
            omega
          refine ⟨lg, D, _, _, rfl, rfl, hlg6, hD6, ?_, ?_⟩
          · rw [List.length_map, List.length_map]
            rw [sizeLine_eq]
            omega
          · have keep : ∀ p xs, H6 p = some (.tup xs) → upd H6 lg (.lst (qs.map V.ref ++ ws.map V.ref)) p = some (.tup xs) := fun p xs z => by
              rw [upd_ne (ne_of z hlg6 (by intro z; cases z))]
              exact z
            refine ⟨Ex.mut (e5.trans e6) hlg, qs ++ ws, some (.ref p1), rfl, ?_, ?_⟩
            · rw [upd_same, List.map_append]
            · rw [List.take_add_one, hr1]
              show RowsA _ _ (rows1 (rs.take j ++ [r1]) c)
              rw [rows1_snoc]
              exact RowsA.app ((hq5.ext e6).keep keep) (hw6.keep keep)
      · obtain ⟨e5, qs, v4', rfl, hlg5, hq5⟩ := p
        refine s_asg (ev_var rfl) fun H6 e6 => ⟨e3.trans (e5.trans e6), lg, qs, _, _, _, rfl, nlg, e6 _ _ hlg5, ?_⟩
        rw [List.length_map, hR.1, List.take_length] at hq5
        rw [take_rev hc]
        show RowsA H6 qs (rows1 (RR (cs.take i).reverse) c)
        rw [hrs]
        exact hq5.ext e6
    · obtain ⟨e3, l, ps, v2, v3, v4, rfl, nl, hl, hR⟩ := p
      rw [List.length_map, List.take_length] at hR
      exact s_ret (ev_var rfl) fun H4 e4 => k l ps H4 nl ((eH.trans e3).trans e4) (e4 _ _ hl) (hR.ext e4)
end
end Hs
namespace Hs
open PySem PySem.Spec PyProof.Rows L2 Evl LamX NdefX
/-- an own def with keywords, all given -/
structure OwnN (P : Program) (w : World) (K : PySem.W.Frag) (mg : Str → Option Value) (base : Heap) (k : Nat) (x : Str) (ps : List Str) (n : Nat) (ks : List Str) (sp : Sp) : Prop where
  ex : ∃ (f : Addr) (fd : FuncData), FnOk P w K mg base (L2.CX P w) k f fd ps sp ∧ mg x = some (.ref f) ∧ PySem.W.keepIn K (.ref f) = true ∧ KBn K fd ps n ks (fun us ws => us ++ ws) (fun vs zs => vs ++ zs)
theorem pe_ownN {X : Cx} {k j n : Nat} {x : Str} {ps ks : List Str} {sp : Sp} {e : Expr} {es : List Expr} {kws : List Keyword} {t tk : TA} {p pos : Pos} {Ex : XK} (O : OwnN X.prog X.w X.K X.mg X.base k x ps n ks sp) (hr : Room j X.A) (hk : k ≤ j) (hg : Gl X x) (hx : Passes (L2.CX X.prog X.w) X Ex) (ha : PA X (e :: es) t) (hkw : PK X kws tk)
    (hall : (backToKw pos (keywordEach kws X.env)).all (·.1.isSome) = true := by rfl) (hks : (backToKw pos (keywordEach kws X.env)).filterMap (·.1) = ks := by rfl)
    (hdb : (x == ("__debug__" : Str)) = false := by decide) (he : starEach (e :: es) X.env = (false, eval e X.env) :: starEach es X.env := by rfl)
    (hpl : ((backTo pos (starEach (e :: es) X.env)).any (·.1) || (backToKw pos (keywordEach kws X.env)).any (·.1.isNone)) = false := by rfl) :
    PE X (.Call (.Name x p) (e :: es) kws pos) (tCallN n ks.length sp (fun vs zs => vs ++ zs) Ex t tk) := by
  obtain ⟨f, fd, F, m, kp, b⟩ := O.ex
  exact pe_callN F (hr.mono hk) hg m kp b hx ha hkw hall hks hdb he hpl
/-- a lambda without parameters, by its body's reading -/
theorem lok_gen {P : Program} {w : World} {K : PySem.W.Frag} {mg : Str → Option Value} {base : Heap} {F : LF} {k : Nat} {fr : List Str} {t : XK → TE} (hp : F.params = ⟨[], [], none, [], [], none, []⟩) (S : NScope fr [] fr F.scope)
    (hb : ∀ (A : Around) (outer : List Env) (s : Shared) (H : Hp) (f : Addr) (E : XK), Room k (A.deeper (envF F.nf f s.heap.objs.size)) → PE (ncx (L2.CX P w) P w K mg base fr F.nf f A outer s H E) F.body (t E)) :
    LOk P w K mg base (L2.CX P w) (k + 1) F [] fr (fun ws vs H Q E => vs = [] ∧ t E (startF fr [] ws) H Q) := by
  refine lok_of S (fun pm ctv us hl => ?_) (fun ws vs H Q E h => by rw [h.1] <;> rfl) (fun A outer s H f vs ws Q E hr hl h => ?_)
  · cases us with
    | nil =>
      rw [hp]
      rfl
    | cons u r => cases hl
  · obtain ⟨rfl, hs⟩ := h
    exact ⟨_, hb A outer s H f E hr, hs⟩
/-- what the catcher tells of such a function -/
theorem tried_of {P : Program} {w : World} {K : PySem.W.Frag} {mg : Str → Option Value} {base : Heap} {k : Nat} {q : Str} {cN cL cK cB cS cM cC : Addr} {H : Hp} {Q : VK} {E : XK} {f : Addr} {F : LF} {fr : List Str} {ws : List (Option V)} {sp : List (Option V) → Sp} (Fn : LOk P w K mg base (L2.CX P w) k F [] fr sp) (hC : CellsAt F.cl fr ws base fun _ => none) (hq : F.qual = q)
    (hf : H f = some (LamO f F)) (hc : H F.c = some (CodeO F.c F.qual)) (h : ∀ (Q' : VK) (E' : XK), (∀ (C dd : Addr) (wd : Str) (H' : Hp), Word K C cN cL cK cB cS cM cC → H' dd = some (.xd [("word", .str wd)]) → (∀ p, H' p = none → Q (.ref p) (upd H' p (.tup [.str wd]))) → E' (.ref C) (some dd) H') →
      (∀ v H1, (∀ p, H1 p = none → Q (.ref p) (upd H1 p (.tup [.str "told", v]))) → Q' v H1) → sp ws [] H Q' E') : spTried P w K mg base k q cN cL cK cB cS cM cC [.ref f] H Q E :=
  ⟨f, _, rfl, ⟨F, fr, ws, sp, hq, Fn, hC, hf, hc, rfl⟩, hf, h _ _ (fun C dd wd H' wc hd kk => ⟨C, dd, _, wd, rfl, rfl, wc, hd, rfl, kk⟩) (fun v H1 kk => ⟨sz_of (by simp), kk⟩)⟩
end Hs
namespace Hs
open PySem PySem.Spec PyProof.Rows L2 Evl
def lamQ : Str := ("law" : Str) ++ ".<locals>." ++ "<lambda>"
def spLaw (K : PySem.W.Frag) (T : List (Addr × Str)) : Sp := fun vs H Q _ => ∃ (a : Addr) (ns : List Int), vs = [.ref a] ∧ SqL K H a (ns.map V.int) ∧ ns.length ≤ 63 ∧ LamX.Tabs T H ∧ ∀ H', Q (.bl true) H'
/-- counts at cl, what is handed at hd -/
structure S23 (T : List (Addr × Str)) (ns cs : List Int) (b l cl hd : Addr) (n : Nat) (H : Hp) : Prop where
  bag : BagAt H b l ns n
  fc : H cl = some (.lst (iv cs))
  ncl : cl ≠ b
  fh : H hd = some (.lst (iv cs)) ∨ H hd = some (.tup (iv cs))
  nhd : hd ≠ b
  tabs : LamX.Tabs T H
section
variable {K : PySem.W.Frag} {T : List (Addr × Str)} {ns cs : List Int} {b l cl hd : Addr} {n m : Nat} {H H' : Hp}
theorem S23.ext (s : S23 T ns cs b l cl hd n H) (e : Ex H H') (h : n ≤ m) : S23 T ns cs b l cl hd m H' := ⟨s.bag.ext e h, e _ _ s.fc, s.ncl, s.fh.imp (e _ _) (e _ _), s.nhd, s.tabs.ext e⟩
theorem S23.but (s : S23 T ns cs b l cl hd n H) (B : BagAt H' b l ns m) (k : But H H' b) : S23 T ns cs b l cl hd m H' := by
  obtain ⟨xb, hb⟩ := bag_lst s.bag
  exact ⟨B, k _ _ s.fc s.ncl, s.ncl, s.fh.imp (fun h => k _ _ h s.nhd) (fun h => k _ _ h s.nhd), s.nhd, tabs_but s.tabs hb k⟩
theorem S23.extN (s : S23 T ns cs b l cl hd n H) (e : LamX.ExtN H H') (t : LamX.Tabs T H') : S23 T ns cs b l cl hd n H' :=
  ⟨bag_extN s.bag e, e _ _ s.fc (fun _ z => by cases z), s.ncl, s.fh.imp (fun h => e _ _ h (fun _ z => by cases z)) (fun h => e _ _ h (fun _ z => by cases z)), s.nhd, t⟩
/-- what stands apart from a -/
theorem S23.upd {a : Addr} {xs : List V} {o : HO} (s : S23 T ns cs b l cl hd n H) (ha : H a = some (.lst xs)) (h1 : a ≠ b) (h2 : a ≠ l) (h3 : a ≠ cl) (h4 : a ≠ hd) : S23 T ns cs b l cl hd n (upd H a o) := by
  refine ⟨bag_upd s.bag (Ne.symm h1) (Ne.symm h2), by rw [upd_ne (Ne.symm h3)]; exact s.fc, s.ncl, ?_, s.nhd, tabs_upd s.tabs ha⟩
  rw [upd_ne (Ne.symm h4)]
  exact s.fh
theorem S23.fresh (s : S23 T ns cs b l cl hd n H) {a : Addr} (ha : H a = none) : a ≠ b ∧ a ≠ l ∧ a ≠ cl ∧ a ≠ hd := by
  refine ⟨bag_ne s.bag ha, fun z => ?_, fun z => ?_, fun z => ?_⟩
  · rw [z, s.bag.ls] at ha
    cases ha
  · rw [z, s.fc] at ha
    cases ha
  · rw [z] at ha
    rcases s.fh with h | h
    · rw [h] at ha
      cases ha
    · rw [h] at ha
      cases ha
theorem S23.q (s : S23 T ns cs b l cl hd n H) : SqQ K H hd (iv cs) := s.fh.imp (fun h => sq_of h) (fun h => st_of h)
theorem sm_flat {d : Nat} {v : V} (h : flatV v = true) : Sm K H (d + 1) v v := .inl ⟨rfl, h⟩
theorem iv_flat {cs : List Int} : (iv cs).all flatV = true := by
  rw [List.all_map]
  exact List.all_eq_true.mpr fun x _ => rfl
theorem sm_row {d : Nat} {xs : List V} (hf : xs.all flatV = true) (i : Nat) (x y : V) (hx : xs[i]? = some x) (hy : xs[i]? = some y) : Sm K H (d + 1) x y := by
  rw [hx] at hy
  cases hy
  exact sm_flat (List.all_eq_true.mp hf x (List.mem_of_getElem? hx))
theorem sm_tupF {d : Nat} {p q : Addr} {xs : List V} (h1 : SqT K H p xs) (h2 : SqT K H q xs) (hf : xs.all flatV = true) (hz : xs.length ≤ 1000) : Sm K H (d + 2) (.ref p) (.ref q) := .inr ⟨p, q, xs, xs, rfl, rfl, .inr ⟨h1, h2⟩, rfl, hz, sm_row hf⟩
theorem sm_rows {d : Nat} {l1 l2 : Addr} {ps qs : List Addr} {rs : List (List Int)} (h1 : H l1 = some (.lst (ps.map V.ref))) (h2 : H l2 = some (.lst (qs.map V.ref))) (r1 : RowsA H ps rs) (r2 : RowsA H qs rs) (hz : rs.length ≤ 1000) (hr : ∀ r ∈ rs, r.length ≤ 1000) : Sm K H (d + 3) (.ref l1) (.ref l2) := by
  refine .inr ⟨l1, l2, _, _, rfl, rfl, .inl ⟨sq_of h1, sq_of h2⟩, by rw [List.length_map, List.length_map, r1.1, r2.1], by rw [List.length_map, r1.1]; exact hz, fun i x y hx hy => ?_⟩
  obtain ⟨p, r, rfl, hp, hr1, hp1⟩ := r1.at hx
  obtain ⟨q, r', rfl, hq, hr2, hq1⟩ := r2.at hy
  rw [hr1] at hr2
  cases hr2
  exact sm_tupF (st_of hp1) (st_of hq1) iv_flat (by rw [List.length_map]; exact hr r (List.mem_of_getElem? hr1))
theorem Cnt.snoc {c : Int} (h : Cnt cs) (hl : cs.length ≤ 4) (h1 : 1 ≤ c) (h2 : c ≤ 6) : Cnt (cs ++ [c]) := by
  refine ⟨by rw [List.length_append]; exact Nat.succ_le_succ hl, fun x hx => ?_⟩
  rcases List.mem_append.mp hx with z | z
  · exact h.2 x z
  · rw [List.mem_singleton.mp z]
    exact ⟨h1, h2⟩
theorem s_forRD {σ : L2.St} {D : Ends} {tu : TS} {ta : TA} {j : Nat} (M : Int → Hp → Prop) (h : ∀ k : List V → Hp → Prop, (∀ n H1, M n H1 → k [.int n] H1) → ta σ H k) (Pv : Int → Nat → L2.St → Hp → Prop) (hM : ∀ n H1, M n H1 → (0 ≤ n ∧ n ≤ 100000) ∧ Pv n 0 σ H1)
    (hs : ∀ n (i : Nat) σ' H', (i : Int) < n → Pv n i σ' H' → tu { D with nx := Pv n (i + 1), ct := Pv n (i + 1), bk := D.nx } (σ'.set j (some (.int (i : Int)))) H') (hd : ∀ n σ' H', Pv n n.toNat σ' H' → D.nx σ' H') : tFor (iRng1 ta) (gName j) tu D σ H :=
  h _ fun n H1 m => ⟨n, rfl, by have := (hM n H1 m).1; omega, by have := (hM n H1 m).1; omega, for_range (lo := 0) (n := n.toNat) (Pv n) (hM n H1 m).2 (fun i σ' H' hi p => by
    have e0 : (0 : Int) + (i : Int) = (i : Int) := Int.zero_add _
    show tu { D with nx := Pv n (i + 1), ct := Pv n (i + 1), bk := D.nx } (σ'.set j (some (.int ((0 : Int) + (i : Int))))) H'
    rw [e0]
    exact hs n i σ' H' (by omega) p) (hd n)⟩
end
end Hs
namespace Hs
open PySem PySem.Spec PyProof.Rows L2 Evl
def freeB (sc : Scope) (ns : List (Str × NameKind)) : Bool := ns.all fun y => !decide (y.2 = .free) || decide (sc.names.lookup y.1 = some .cell) || decide (sc.names.lookup y.1 = some .free)
theorem free_by {sc : Scope} {ns : List (Str × NameKind)} (h : freeB sc ns = true) : ∀ y ∈ ns, y.2 = .free → sc.names.lookup y.1 = some .cell ∨ sc.names.lookup y.1 = some .free := by
  unfold freeB at h
  simp only [Bool.or_eq_true, Bool.not_eq_true', decide_eq_true_eq, decide_eq_false_iff_not, List.all_eq_true] at h
  intro y hy e
  rcases h y hy with (z | z) | z
  · exact absurd e z
  · exact .inl z
  · exact .inr z
theorem caps_ns {X : Cx} {ns : List (Str × NameKind)} {fr : List Str} {js : List Nat} (ok : X.Ok) (hfree : ∀ y ∈ ns, y.2 = .free → X.env.scope.names.lookup y.1 = some .cell ∨ X.env.scope.names.lookup y.1 = some .free) (hfr : ∀ y ∈ fr, (y, NameKind.free) ∈ ns) (hjs : js.map (fun j => X.N[j]?) = fr.map some) : NdefX.Caps X (cloFrom X.env.cells ns []) fr js :=
  NdefX.Caps.made (scope := { kind := .function, names := ns, isGenerator := false, isCoroutine := false }) ok hfree hfr hjs
/-! ### tuples, new or not -/
def EvQ (te : TE) (σ : L2.St) (H : Hp) (xs : List V) : Prop := ∀ H1, Ex H H1 → ∀ Q : VK, (∀ p H2, Ex H1 H2 → H2 p = some (.tup xs) → Q (.ref p) H2) → te σ H1 Q
section
variable {K : PySem.W.Frag} {σ : L2.St} {H : Hp} {ta tb te : TE}
theorem eq_ev {a : Addr} {xs : List V} (h : Ev ta σ H (.ref a)) (ha : H a = some (.tup xs)) : EvQ ta σ H xs := fun H1 e Q q => h H1 e _ fun H2 e2 => q a H2 e2 ((e.trans e2) _ _ ha)
theorem eq_cat {xs ys : List V} (h1 : EvQ ta σ H xs) (h2 : EvU tb σ H ys) (hy : ys ≠ []) (hz : xs.length + ys.length ≤ 1000) : EvQ (tOp (rCatA K) ta tb) σ H (xs ++ ys) := fun H1 e Q q =>
  h1 H1 e _ fun a H2 e2 ha => h2 H2 (e.trans e2) _ fun b H3 _ e3 hb => ⟨a, b, xs, ys, rfl, rfl, st_of (e3 _ _ ha), st_of hb, Nat.le_of_lt (sz_rows (by omega)), fun hx => by
    refine q b H3 (e2.trans e3) ?_
    rw [hx]
    exact hb, fun _ z => absurd z hy, fun _ _ p hp => q p _ ((e2.trans e3).trans (Ex.new hp)) upd_same⟩
theorem eq_sl {a : Addr} {xs : List V} {tl th : TO} {lo hi : Option Int} (h : Ev te σ H (.ref a)) (h1 : EvO tl σ H lo) (h2 : EvO th σ H hi) (ha : H a = some (.tup xs)) : EvQ (tSl (rSlA K) te tl th) σ H (cutV xs lo hi) := fun H1 e Q q =>
  h H1 e _ fun H2 e2 => h1 H2 (e.trans e2) _ fun H3 e3 => h2 H3 ((e.trans e2).trans e3) _ fun H4 e4 => by
    have e24 := (e2.trans e3).trans e4
    have ha4 := (e.trans e24) _ _ ha
    refine ⟨a, xs, rfl, st_of ha4, fun hw => ?_, fun _ p hp => q p _ (e24.trans (Ex.new hp)) upd_same⟩
    refine q a H4 e24 ?_
    unfold cutV
    rw [hw.1, hw.2, List.drop_zero, Nat.sub_zero, List.take_length]
    exact ha4
theorem el_lcL {a : Addr} {xs : List V} {tl : TE} {t : TT} {j : Nat} {vs : List Nat} (f : Nat → Bool) (v : Nat → V) (h : Ev tl σ H (.ref a)) (hx : SqL K H a xs) (hz : xs.length ≤ 40000) (hw : ∀ x, wipe ((wipe σ vs).set j (some x)) vs = wipe σ vs)
    (ht : ∀ (i : Nat) (x : V) H1, Ex H H1 → xs[i]? = some x → EvT t ((wipe σ vs).set j (some x)) H1 (f i)) (he : ∀ (i : Nat) (x : V) H1, Ex H H1 → xs[i]? = some x → f i = true → Ev te ((wipe σ vs).set j (some x)) H1 (v i)) :
    EvL (tLc (iList K tl) (gName j) t te vs) σ H (given xs.length f v) := fun H0 e Q q => h H0 e _ fun H1 e1 => ⟨a, rfl, ⟨xs, ex_l (e.trans e1) hx⟩, fun Dl hD =>
  lc_list (xs := xs) (Cw H1 f v Dl) ⟨hD, Ex.new hD, upd_same⟩ (fun i H' _ p => ex_l ((e.trans e1).trans p.2.1) hx) (fun i x H' hi p => ⟨hw x, cw_turn p (by have := (List.getElem?_eq_some_iff.mp hi).1; omega) (ht i x H1 (e.trans e1) hi) (fun hf => he i x H1 (e.trans e1) hi hf)⟩)
    (fun H' p => q Dl H' (fresh_back e1 p.1) (e1.trans p.2.1) p.2.2)⟩
theorem q_asgT23 {D : Ends} {tz : TS} {i : Nat} {xs : List V} (h : EvU te σ H xs) (k : ∀ p H1, H p = none → Ex H H1 → H1 p = some (.tup xs) → tz D (σ.set i (some (.ref p))) H1) : tSeq (tAsg te (gName i)) tz D σ H := h H (Ex.refl H) _ k
theorem et_yes : EvT tYes σ H true := fun H1 _ _ q => q H1 (Ex.refl H1)
theorem eu_tuple {tl : TE} {xs : List V} (h : EvL tl σ H xs) : EvU (tCB (fun xs H Q => ∃ p ys, xs = [V.ref p] ∧ ((SqL K H p ys ∧ ∀ l, H l = none → Q (.ref l) (upd H l (.tup ys))) ∨ (SqT K H p ys ∧ Q (.ref p) H))) (tCons tl tNil)) σ H xs := fun H1 e Q q =>
  h H1 e _ fun p H2 hp e2 h2 => ⟨p, xs, rfl, .inl ⟨sq_of h2, fun l hl => q l _ (fresh_back e2 hl) (e2.trans (Ex.new hl)) upd_same⟩⟩
theorem el_listOf {i : Nat} {a : Addr} {xs : List V} (hi : σ[i]? = some (some (.ref a))) (h : SqL K H a xs ∨ SqT K H a xs) : EvL (tCB (rListS K) (tCons (tVar i) tNil)) σ H xs := fun H1 e Q q =>
  ⟨_, hi, a, xs, rfl, h.imp (ex_l e) (ex_t e), fun l hl => q l _ hl (Ex.new hl) upd_same⟩
theorem et_neL {tx ty : TE} {v : V} {xs : List V} {d : PyData} (hx : EvL tx σ H xs) (hy : Ev ty σ H v) (dx : ∀ p H', Ex H H' → H' p = some (.lst xs) → Dp K H' (.ref p) d) (dy : ∀ H', Ex H H' → Dp K H' v d) (hs : SeqAt.shaped d = true) (he : PyData.eqv d d = true) : EvT (tTest (tOp (rNeD K) tx ty)) σ H false := fun H1 e Q q =>
  hx H1 e _ fun p H2 hp e2 h2 => hy H2 (e.trans e2) _ fun H3 e3 => ⟨d, d, dx p H3 ((e.trans e2).trans e3) (e3 _ _ h2), dy H3 ((e.trans e2).trans e3), hs, hs, false, by rw [he] <;> rfl, q H3 (e2.trans e3)⟩
theorem et_sameI {t1 t2 : TE} {x : Int} {E : XK} {d : Nat} (h1 : Ev t1 σ H (.int x)) (h2 : Ev t2 σ H (.int x)) : EvT (tNot (tB (tCall (spSame K (d + 1)) [] E (tCons t1 (tCons t2 tNil))))) σ H false := fun H0 e0 Q q =>
  h1 H0 e0 _ fun H1 e1 => h2 H1 (e0.trans e1) _ fun H2 e2 => ⟨_, _, rfl, sm_flat rfl, fun H3 e3 => ⟨true, rfl, q H3 ((e1.trans e2).trans e3)⟩⟩
theorem dp_ints : ∀ {cs : List Int}, DpAll K H (iv cs) (cs.map PyData.int)
  | [] => .nil
  | c :: cs => .cons (.int c) dp_ints
end
theorem lay_ints : ∀ cs : List Int, PyData.canLayAll0 (cs.map PyData.int) = true
  | [] => rfl
  | x :: xs => by
    rw [List.map_cons, PyData.canLayAll0, lay_ints xs]
    rfl
theorem depth_ints : ∀ cs : List Int, PyData.depthAll (cs.map PyData.int) ≤ 1
  | [] => Nat.zero_le _
  | x :: xs => by
    rw [List.map_cons, PyData.depthAll]
    have h := depth_ints xs
    have h2 : PyData.depth (.int x) = 0 := rfl
    rw [h2]
    omega
theorem shapedI (cs : List Int) : SeqAt.shaped (.list (cs.map PyData.int)) = true := by
  unfold SeqAt.shaped
  have h := depth_ints cs
  have h2 : PyData.depth (.list (cs.map PyData.int)) ≤ 64 := by
    rw [PyData.depth]
    omega
  rw [show PyData.canLay0 (.list (cs.map PyData.int)) = true from lay_ints cs, decide_eq_true h2] <;> rfl
theorem eqvI (cs : List Int) : PyData.eqv (.list (cs.map PyData.int)) (.list (cs.map PyData.int)) = true := SeqAt.eqv_refl _ (lay_ints cs)
/-! ### rows that are none -/
def zeros (n : Nat) : List Int := List.replicate n 0
theorem zeros_given {cs : List Int} : given (iv cs).length (fun _ => true) (fun _ => V.int 0) = iv (zeros cs.length) := by
  unfold given zeros
  rw [List.filter_eq_self.mpr fun _ _ => rfl, List.length_map]
  simp [iv, List.map_const']
theorem zeros_cut {n : Nat} : cutV (iv (zeros n)) none (some (-1)) = iv (zeros (n - 1)) := by
  unfold cutV zeros
  rw [HT.sIx_none]
  have h : HT.sIx (iv (List.replicate n (0 : Int))).length (iv (List.replicate n (0 : Int))).length (some (-1)) = n - 1 := by
    show (if (-1 : Int) < 0 then ((-1 : Int) + ((iv (List.replicate n (0 : Int))).length : Int)).toNat else min (-1 : Int).toNat (iv (List.replicate n (0 : Int))).length) = n - 1
    rw [if_pos (by decide), List.length_map, List.length_replicate]
    omega
  rw [h, List.drop_zero, Nat.sub_zero]
  simp only [iv, List.map_replicate, List.take_replicate]
  congr 1
  omega
def lastOf (cs : List Int) : Int := ((0 : Int) :: cs).getLast (by simp)
theorem last_at {cs : List Int} : atI ([V.int 0] ++ iv cs) (-1) = some (.int (lastOf cs)) := by
  have e : [V.int 0] ++ iv cs = iv (0 :: cs) := rfl
  rw [e]
  have hn : ixN (iv (0 :: cs)).length (-1) = some cs.length := by
    unfold ixN
    rw [if_neg (by decide), List.length_map, List.length_cons, if_pos (by omega)]
    congr 1
    omega
  unfold atI
  rw [hn]
  show (iv (0 :: cs))[cs.length]? = _
  rw [List.getElem?_map]
  have : ((0 : Int) :: cs)[cs.length]? = some (lastOf cs) := by
    unfold lastOf
    rw [List.getLast_eq_getElem, List.getElem?_eq_getElem (by simp)]
    simp
  rw [this] <;> rfl
theorem last_bd {cs : List Int} (h : Cnt cs) : 0 ≤ lastOf cs ∧ lastOf cs ≤ 6 := by
  have hm : lastOf cs ∈ (0 : Int) :: cs := List.getLast_mem _
  rcases List.mem_cons.mp hm with z | z
  · omega
  · have := h.2 _ z
    omega
theorem bad_long {cs : List Int} : ¬ GoodR cs (zeros cs.length ++ [0]) := fun g => by
  have := g.1
  rw [List.length_append, zeros, List.length_replicate, List.length_singleton] at this
  omega
theorem bad_end {cs : List Int} {x : Int} (hx : x = lastOf cs ∨ x = -1) : ¬ GoodR cs (zeros (cs.length - 1) ++ [x]) := fun g => by
  have h1 := g.1
  rw [List.length_append, zeros, List.length_replicate, List.length_singleton] at h1
  have hpos : 0 < cs.length := by omega
  obtain ⟨c, hc⟩ : ∃ c, cs[cs.length - 1]? = some c := ⟨_, List.getElem?_eq_getElem (by omega)⟩
  have hd : (zeros (cs.length - 1) ++ [x])[cs.length - 1]? = some x := by
    rw [List.getElem?_append_right (by rw [zeros, List.length_replicate]; exact Nat.le_refl _), zeros, List.length_replicate, Nat.sub_self] <;> rfl
  obtain ⟨d1, d2⟩ := g.2 _ c x (by omega) hc hd
  rcases hx with rfl | rfl
  · have e : lastOf cs = c := by
      unfold lastOf
      rw [List.getLast_eq_getElem]
      have : ((0 : Int) :: cs)[((0 : Int) :: cs).length - 1]? = some c := by
        rw [List.length_cons]
        show ((0 : Int) :: cs)[cs.length]? = some c
        have e2 : cs.length = (cs.length - 1) + 1 := by omega
        rw [e2, List.getElem?_cons_succ]
        exact hc
      have h := List.getElem?_eq_some_iff.mp this
      exact h.2
    omega
  · omega
end Hs
namespace Hs
open PySem PySem.Spec PyProof.Rows L2 Evl
section
variable {P : Program} {w : World} {K : PySem.W.Frag} {mg : Str → Option Value} {base : Heap} {CT CB c pt : Addr} {cN cL cK cB cS cM cC : Addr}
abbrev sLaw : Stmt := top 25
theorem scLaw : FnScope ["_law_script", "_law_bag_here", "_law_step", "_law_counts", "_law_k", "_law_many", "_law_every", "_law_handed", "_law_found", "_law_due", "_law_at", "_law_row", "_law_last", "_law_odd", "_law_acts"] ["_law_script"] (defScope sLaw) := ⟨rfl, rfl, rfl, by decide +kernel, rfl, by decide +kernel, by decide +kernel⟩
theorem law_body {A : Around} {outer : List Env} {s : Shared} {H : Hp} {E : XK} {f : Addr} (hr : Room 6 (A.deeper (envOfC "law" (defScope sLaw) s.heap.objs.size f (.ref c))))
    (O__law_bag : Own P w K mg base 1 "_law_bag" ["_law_script"] (spBag K)) (O__law_pull : Own P w K mg base 1 "_law_pull" ["_law_bag_here", "_law_many"] spPull) (O__law_one : Own P w K mg base 2 "_law_one" ["_law_bag_here", "_law_some"] (spOne K))
    (O__law_same : Own P w K mg base 4 "_law_same" ["_law_got", "_law_due"] (spSame K 4)) (O__law_product : Own P w K mg base 1 "_law_product" ["_law_counts"] (spProd K)) (O__law_rows : Own P w K mg base 1 "_law_rows" ["_law_counts"] (spRowsL K)) (O_how_many : Own P w K mg base 1 "how_many" ["counts"] (spMany K))
    (OA : ∀ base', (∀ b o, base.get? b = some o → base'.get? b = some o) → OwnX P w K mg base' 3 "all_rows" ["counts", "most"] [.int 200] (spAllR K CT)) (ON : ∀ base', (∀ b o, base.get? b = some o → base'.get? b = some o) → OwnN P w K mg base' 3 "all_rows" ["counts", "most"] 1 ["most"] (spAllR K CT))
    (OT : ∀ base', (∀ b o, base.get? b = some o → base'.get? b = some o) → OwnX P w K mg base' 3 "row_at" ["counts", "number"] [] (spAtR K CB)) (OU : ∀ base', (∀ b o, base.get? b = some o → base'.get? b = some o) → OwnX P w K mg base' 3 "row_number" ["counts", "row"] [] (spNum K CB))
    (O__law_tried : ∀ base', (∀ b o, base.get? b = some o → base'.get? b = some o) → Own P w K mg base' 5 "_law_tried" ["_law_act"] (spTried P w K mg base' 4 lamQ cN cL cK cB cS cM cC))
    (O__law_all_tried : ∀ base', (∀ b o, base.get? b = some o → base'.get? b = some o) → Own P w K mg base' 6 "_law_all_tried" ["_law_acts"] (spAll P w K mg base' 4 lamQ cN cL cK cB cS cM cC))
    (TB : LamX.TabB base mg c pt) (g_range : mg "range" = none) (g_tuple : mg "tuple" = none) (g_list : mg "list" = none) (g_MOST_SETTINGS : ∃ u, mg "MOST_SETTINGS" = some u ∧ RelV (.int 200) u) (wT : Word K CT cN cL cK cB cS cM cC) (wB : Word K CB cN cL cK cB cS cM cC) {vs : List V} {Q : VK} (h : spLaw K [(pt, lamQ)] vs H Q E) :
    ∃ t, PSs (cxOf CX0 P w K mg base ["_law_script", "_law_bag_here", "_law_step", "_law_counts", "_law_k", "_law_many", "_law_every", "_law_handed", "_law_found", "_law_due", "_law_at", "_law_row", "_law_last", "_law_odd", "_law_acts"] "law" (defScope sLaw) f (.ref c) A outer s H E) (defBody sLaw) t ∧ t { nx := fun _ H' => Q .non H', rt := Q } (L2.start ["_law_script", "_law_bag_here", "_law_step", "_law_counts", "_law_k", "_law_many", "_law_every", "_law_handed", "_law_found", "_law_due", "_law_at", "_law_row", "_law_last", "_law_odd", "_law_acts"] vs) H := by
  have nd := scLaw.nd
  obtain ⟨uB, g_MOST_SETTINGS⟩ := g_MOST_SETTINGS
  have O_all_rows := OA base fun _ _ z => z
  have O_all_rowsN := ON base fun _ _ z => z
  have O_row_at := OT base fun _ _ z => z
  have O_row_number := OU base fun _ _ z => z
  refine ⟨_, PSs.nox (pss_cons (ps_set (i := 1) nd rfl (.inl rfl) (Hs.pe_own O__law_bag hr (by first | decide | omega) (by rfl) (pa_cons (pv 0) pa_nil)))
  (pss_cons (ps_for PassesOwn.never rfl (pi_range1 (by rfl) g_range (pa_cons pe_int pa_nil)) (pg_name (i := 2) nd rfl (.inl rfl)) (pss_cons (ps_set (i := 3) nd rfl (.inl rfl) (pe_lst pa_nil))
  (Evl.pss_cut (ps_for PassesOwn.never rfl (pi_range1 (by rfl) g_range (pa_cons (Hs.pe_own O__law_pull hr (by first | decide | omega) (by rfl) (pa_cons (pv 1) (pa_cons pe_int pa_nil))) pa_nil)) (pg_name (i := 4) nd rfl (.inl rfl)) (pss_cons (ps_set (i := 5) nd rfl (.inl rfl) (pe_op op_add pe_int (Hs.pe_own O__law_pull hr (by first | decide | omega) (by rfl) (pa_cons (pv 1) (pa_cons pe_int pa_nil)))))
  (pss_one (ps_if (PW.pt (pw_or (pt_cmpR op_lt (pe_op op_mulW (Hs.pe_own O__law_product hr (by first | decide | omega) (by rfl) (pa_cons (pv 3) pa_nil)) (pv 5)) pe_int (nomark _)) (pw_or1 (pt_cmpR op_eq (Hs.pe_own O__law_pull hr (by first | decide | omega) (by rfl) (pa_cons (pv 1) (pa_cons pe_int pa_nil))) pe_int (nomark _))))) (pss_one (ps_expr (pe_bm PySem.F.plainAttrs_list PySem.F.slot_list_append PySem.F.type_list_append mt_append (pv 3) (pa_cons (pv 5) pa_nil)))) pss_nil))))
  (pss_cons (ps_set (i := 6) nd rfl (.inr rfl) (Hs.pe_own O__law_product hr (by first | decide | omega) (by rfl) (pa_cons (pv 3) pa_nil)))
  (pss_cons (ps_set (i := 7) nd rfl (.inr rfl) (pe_ix (r := rIxL K) ix_list (pe_lst (pa_cons (pe_callTy (r := Evl.rListS K) call_list_of (by rfl) g_list (by decide +kernel) (pa_cons (pv 3) pa_nil)) (pa_cons (pe_callTy call_tuple_of (by rfl) g_tuple (by decide +kernel) (pa_cons (pv 3) pa_nil)) pa_nil))) (Hs.pe_own O__law_pull hr (by first | decide | omega) (by rfl) (pa_cons (pv 1) (pa_cons pe_int pa_nil))) (fun _ _ => rfl)))
  (Evl.pss_cut (ps_set (i := 8) nd rfl (.inl rfl) (Hs.pe_ownB (sp := fun base => spTried P w K mg base 4 lamQ cN cL cK cB cS cM cC) O__law_tried (fun _ => rfl) hr (by decide) (by rfl) (pa_cons (Hs.pe_lam (T := [(pt, lamQ)]) TB rfl (List.mem_singleton.mpr rfl) (fun p hp _ => by rw [List.mem_singleton.mp hp] <;> rfl) rfl (LamX.lamS_by (sc := defScope sLaw) (by decide +kernel)).free) pa_nil)))
  (pss_cons (ps_if (pt_not (pt_val (Hs.pe_own O__law_same hr (by first | decide | omega) (by rfl) (pa_cons (Hs.pe_own O_how_many hr (by first | decide | omega) (by rfl) (pa_cons (pv 7) pa_nil)) (pa_cons (pv 6) pa_nil))))) (pss_one (ps_ret pe_bl)) pss_nil)
  (Evl.pss_cut (ps_if (pt_cmpR op_gt (pv 6) pe_int (nomark _)) (pss_one (ps_if (pt_cmpR (op_neD hr.units) (pv 8) (pe_tup (pa_cons pe_str pa_nil)) (nomark _)) (pss_one (ps_ret pe_bl)) pss_nil)) (pss_cons (ps_set (i := 9) nd rfl (.inl rfl) (Hs.pe_own O__law_rows hr (by first | decide | omega) (by rfl) (pa_cons (pv 3) pa_nil)))
  (pss_cons (ps_if (PW.pt (pw_or (pt_not (pt_val (Hs.pe_own O__law_same hr (by first | decide | omega) (by rfl) (pa_cons (pv 8) (pa_cons (pe_tup (pa_cons pe_str (pa_cons (pv 9) pa_nil))) pa_nil))))) (pw_or1 (pt_not (pt_val (Hs.pe_own O__law_same hr (by first | decide | omega) (by rfl) (pa_cons (Hs.pe_ownN O_all_rowsN hr (by decide) (by rfl) passL (pa_cons (pv 7) pa_nil) (pk_cons (pv 6) pk_nil)) (pa_cons (pv 9) pa_nil)))))))) (pss_one (ps_ret pe_bl)) pss_nil)
  (pss_cons (ps_set (i := 10) nd rfl (.inl rfl) (Hs.pe_own O__law_pull hr (by first | decide | omega) (by rfl) (pa_cons (pv 1) (pa_cons (pv 6) pa_nil))))
  (pss_cons (ps_if (pt_not (pt_val (Hs.pe_own O__law_same hr (by first | decide | omega) (by rfl) (pa_cons (pe_lst (pa_cons (Hs.pe_ownX O_row_at hr (by first | decide | omega) (by rfl) (pa_cons (pv 7) (pa_cons (pv 10) pa_nil))) (pa_cons (Hs.pe_ownX O_row_number hr (by first | decide | omega) (by rfl) (pa_cons (pv 7) (pa_cons (pe_ix (r := rIxL K) ix_list (pv 9) (pv 10) (fun _ _ => rfl)) pa_nil))) pa_nil))) (pa_cons (pe_lst (pa_cons (pe_ix (r := rIxL K) ix_list (pv 9) (pv 10) (fun _ _ => rfl)) (pa_cons (pv 10) pa_nil))) pa_nil))))) (pss_one (ps_ret pe_bl)) pss_nil)
  (pss_one (ps_if (pt_cmpR (op_neD hr.units) (Hs.pe_ownB (sp := fun base => spTried P w K mg base 4 lamQ cN cL cK cB cS cM cC) O__law_tried (fun _ => rfl) hr (by decide) (by rfl) (pa_cons (Hs.pe_lam (T := [(pt, lamQ)]) TB rfl (List.mem_singleton.mpr rfl) (fun p hp _ => by rw [List.mem_singleton.mp hp] <;> rfl) rfl (LamX.lamS_by (sc := defScope sLaw) (by decide +kernel)).free) pa_nil)) (pe_tup (pa_cons pe_str pa_nil)) (nomark _)) (pss_one (ps_ret pe_bl)) pss_nil)))))))
  (pss_cons (ps_set (i := 11) nd rfl (.inl rfl) (pe_callTy call_tuple_of (by rfl) g_tuple (by decide +kernel) (pa_cons (pe_lc (own := [("_law_many", 5)]) rfl nd (pi_list (pv 3)) (blkOk_by (N := ["_law_script", "_law_bag_here", "_law_step", "_law_counts", "_law_k", "_law_many", "_law_every", "_law_handed", "_law_found", "_law_due", "_law_at", "_law_row", "_law_last", "_law_odd", "_law_acts"]) (sc := defScope (Hs.top 25)) (by decide +kernel)) (fun _ _ _ _ _ => (pg_name (i := 5) nd rfl (Or.inl rfl))) (fun _ _ _ _ _ => pts_nil) (fun _ _ _ _ _ => pe_int)) pa_nil)))
  (pss_cons (ps_set (i := 12) nd rfl (.inl rfl) (pe_ix (r := rIxL K) ix_list (pe_op op_cat (pe_lst (pa_cons pe_int pa_nil)) (pv 3)) (pe_un un_neg pe_int) (fun _ _ => rfl)))
  (pss_cons (ps_set (i := 13) nd rfl (.inr rfl) (Hs.pe_own O__law_one hr (by first | decide | omega) (by rfl) (pa_cons (pv 1) (pa_cons (pe_lst (pa_cons (pe_op (r := rCatA K) op_catA (pv 11) (pe_tup (pa_cons pe_int pa_nil))) (pa_cons (pe_op (r := rCatA K) op_catA (pe_slice sl_tupA (pv 11) po_none (po_some (pe_un un_neg pe_int))) (pe_tup (pa_cons (pv 12) pa_nil))) (pa_cons (pe_op (r := rCatA K) op_catA (pe_slice sl_tupA (pv 11) po_none (po_some (pe_un un_neg pe_int))) (pe_tup (pa_cons (pe_un un_neg pe_int) pa_nil))) pa_nil)))) pa_nil))))
  (pss_cons (ps_set (i := 14) nd rfl (.inl rfl) (pe_lst (pa_cons (Hs.pe_lam (T := [(pt, lamQ)]) TB rfl (List.mem_singleton.mpr rfl) (fun p hp _ => by rw [List.mem_singleton.mp hp] <;> rfl) rfl (LamX.lamS_by (sc := defScope sLaw) (by decide +kernel)).free) pa_nil)))
  (pss_cons (ps_expr (pe_bm PySem.F.plainAttrs_list PySem.F.slot_list_append PySem.F.type_list_append mt_append (pv 14) (pa_cons (Hs.pe_lam (T := [(pt, lamQ)]) TB rfl (List.mem_singleton.mpr rfl) (fun p hp _ => by rw [List.mem_singleton.mp hp] <;> rfl) rfl (LamX.lamS_by (sc := defScope sLaw) (by decide +kernel)).free) pa_nil)))
  (pss_cons (ps_expr (pe_bm PySem.F.plainAttrs_list PySem.F.slot_list_append PySem.F.type_list_append mt_append (pv 14) (pa_cons (Hs.pe_lam (T := [(pt, lamQ)]) TB rfl (List.mem_singleton.mpr rfl) (fun p hp _ => by rw [List.mem_singleton.mp hp] <;> rfl) rfl (LamX.lamS_by (sc := defScope sLaw) (by decide +kernel)).free) pa_nil)))
  (pss_one (ps_if (PW.pt (pw_or (pt_cmpR (op_neD hr.units) (Hs.pe_ownB (sp := fun base => spAll P w K mg base 4 lamQ cN cL cK cB cS cM cC) O__law_all_tried (fun _ => rfl) hr (by decide) (by rfl) (pa_cons (pv 14) pa_nil)) (pe_op op_rep (pe_lst (pa_cons (pe_tup (pa_cons pe_str pa_nil)) pa_nil)) pe_int) (nomark _)) (pw_or1 (pt_cmpR (op_neD hr.units) (pe_callTy (r := Evl.rListS K) call_list_of (by rfl) g_list (by decide +kernel) (pa_cons (pv 7) pa_nil)) (pv 3) (nomark _))))) (pss_one (ps_ret pe_bl)) pss_nil))))))))))))))))
  (pss_one (ps_ret (pe_and (pe_cmpR op_eq (pe_glob (by rfl) g_MOST_SETTINGS.1 g_MOST_SETTINGS.2) pe_int (nomark _)) (pe_one (pe_cmpR (op_eqD hr.units) (Hs.pe_ownX O_all_rows hr (by first | decide | omega) (by rfl) (pa_cons (pe_lst pa_nil) pa_nil)) (pe_lst (pa_cons (pe_tup pa_nil) pa_nil)) (nomark _)))))))), ?_⟩
  obtain ⟨a, ns, rfl, hS0, hl, hT, k⟩ := h
  refine ⟨_, rfl, a, ns, rfl, hS0, hl, fun b l H1 nb nl B1 e1 => ?_⟩
  have hT1 := hT.ext e1
  dsimp only [gName]
  refine q_forR1 (n := 3) (ea_cons ev_c ea_nil) (by decide) (fun i σ' H' => (∃ v2 v3 v4 v5 v6 v7 v8 v9 v10 v11 v12 v13 v14 : Option V, σ' = [some (.ref a), some (.ref b), v2, v3, v4, v5, v6, v7, v8, v9, v10, v11, v12, v13, v14]) ∧ BagAt H' b l ns (50 * i) ∧ LamX.Tabs [(pt, lamQ)] H') ?_ ?_ ?_
  · intro H4 e4
    exact ⟨⟨none, none, none, none, none, none, none, none, none, none, none, none, none, rfl⟩, B1.ext e4 (by omega), hT1.ext e4⟩
  · rintro t σ' H2 ht ⟨⟨v2, v3, v4, v5, v6, v7, v8, v9, v10, v11, v12, v13, v14, rfl⟩, B2, T2⟩
    refine ⟨sz_of (by simp), fun cl hcl => ?_⟩
    have xc := Ex.new (o := .lst []) hcl
    have hcl2 := upd_same (H := H2) (a := cl) (o := .lst [])
    have B3 := B2.ext (m := 50 * t) xc (Nat.le_refl _)
    have T3 := T2.ext xc
    have ncl := bag_ne B2 hcl
    have ncl2 : cl ≠ l := Ne.symm (ne_of_none B2.ls hcl)
    generalize upd H2 cl (.lst []) = H3 at xc hcl2 B3 T3 ⊢
    dsimp only [gName, List.set]
    refine q_cut (M := fun σ' H' => ∃ (cs : List Int) (v4 v5 : Option V), σ' = [some (.ref a), some (.ref b), some (.int (t : Int)), some (.ref cl), v4, v5, v6, v7, v8, v9, v10, v11, v12, v13, v14] ∧ Cnt cs ∧ H' cl = some (.lst (iv cs)) ∧ BagAt H' b l ns (50 * t + 20) ∧ LamX.Tabs [(pt, lamQ)] H') ?_ ?_
    · obtain ⟨xb3, hb3⟩ := bag_lst B3
      refine s_forRD (fun n H' => (0 ≤ n ∧ n < 6) ∧ BagAt H' b l ns (50 * t + 1) ∧ But H3 H' b) (fun kk hk => ⟨_, rfl, b, l, ns, _, 6, rfl, B3, by omega, by decide, by decide, fun v H5 v0 v1 B5 b5 => hk v H5 ⟨⟨v0, v1⟩, B5, b5⟩⟩)
        (fun n i σ' H' => n < 6 ∧ ∃ (cs : List Int) (v4 v5 : Option V), σ' = [some (.ref a), some (.ref b), some (.int (t : Int)), some (.ref cl), v4, v5, v6, v7, v8, v9, v10, v11, v12, v13, v14] ∧ Cnt cs ∧ cs.length ≤ i ∧ H' cl = some (.lst (iv cs)) ∧ BagAt H' b l ns (50 * t + 1 + 2 * i) ∧ LamX.Tabs [(pt, lamQ)] H') (fun n H5 m => ⟨by omega, m.1.2, [], v4, v5, rfl, ⟨by simp, by simp⟩, by simp, m.2.2 _ _ hcl2 ncl, m.2.1.ext (Ex.refl _) (by omega), tabs_but T3 hb3 m.2.2⟩) ?_ ?_
      · rintro n i σ' H5 hi ⟨hn, cs, v4, v5, rfl, hC, hlen, hcl5, B5, T5⟩
        obtain ⟨xb5, hb5⟩ := bag_lst B5
        refine ⟨_, rfl, b, l, ns, _, 6, rfl, B5, by omega, by decide, by decide, fun v H6 v0 v1 B6 b6 => ⟨_, _, rfl, rfl, ?_⟩⟩
        have hcl6 := b6 _ _ hcl5 ncl
        have T6 := tabs_but T5 hb5 b6
        obtain ⟨p1, p2⟩ := PR_small hC.rev
        have app : ∀ H8, BagAt H8 b l ns (50 * t + 1 + 2 * i + 2) → H8 cl = some (.lst (iv cs)) → LamX.Tabs [(pt, lamQ)] H8 → BagAt (upd H8 cl (.lst (iv cs ++ [.int (1 + v)]))) b l ns (50 * t + 1 + 2 * (i + 1)) ∧ LamX.Tabs [(pt, lamQ)] (upd H8 cl (.lst (iv cs ++ [.int (1 + v)]))) := fun H8 B8 h8 T8 => ⟨bag_upd (B8.ext (Ex.refl _) (by omega)) (Ne.symm ncl) (Ne.symm ncl2), tabs_upd T8 h8⟩
        have hCs : Cnt (cs ++ [1 + v]) := hC.snoc (by omega) (by omega) (by omega)
        have eiv : iv (cs ++ [1 + v]) = iv cs ++ [V.int (1 + v)] := List.map_append ..
        dsimp only [gName, List.set]
        refine (et_test (ev_op (ev_op (ev_call (ea_cons (ev_var rfl) ea_nil) fun H7 e7 Q' q E' => ⟨cl, cs, rfl, sq_of (e7 _ _ hcl6), hC, q⟩) (ev_var rfl) (rv_I (mul64 (by omega) (by omega)))) ev_c rv_I0)) H6 (Ex.refl H6) _ fun H7 e7 => ?_
        have B7 := B6.ext (m := 50 * t + 1 + 2 * i + 1) e7 (by omega)
        have T7 := T6.ext e7
        have hcl7 := e7 _ _ hcl6
        cases hb : decide (PR cs.reverse * (1 + v) < 201) with
        | true =>
          rw [if_pos rfl]
          obtain ⟨B9, T9⟩ := app H7 (B7.ext (Ex.refl _) (by omega)) hcl7 T7
          refine ite_T rfl ⟨_, rfl, .inl ⟨rfl, _, sq_of hcl7⟩, _, rfl, cl, _, _, rfl, rfl, hcl7, sz_rows (by rw [List.length_map]; have := hC.1; omega), ?_⟩
          exact ⟨hn, cs ++ [1 + v], _, _, rfl, hCs, by rw [List.length_append]; exact Nat.succ_le_succ hlen, by rw [upd_same, eiv], B9, T9⟩
        | false =>
          rw [if_neg Bool.false_ne_true]
          obtain ⟨xb7, hb7⟩ := bag_lst B7
          refine ⟨_, rfl, b, l, ns, _, 4, rfl, B7, by omega, by decide, by decide, fun u H8 u0 u1 B8 b8 => ⟨rfl, _, rfl, ?_⟩⟩
          have hcl8 := b8 _ _ hcl7 ncl
          have T8 := tabs_but T7 hb7 b8
          by_cases hu : u = 0
          · obtain ⟨B9, T9⟩ := app H8 (B8.ext (Ex.refl _) (by omega)) hcl8 T8
            refine ite_T (decide_eq_true (by rw [hu])) ⟨_, rfl, .inl ⟨rfl, _, sq_of hcl8⟩, _, rfl, cl, _, _, rfl, rfl, hcl8, sz_rows (by rw [List.length_map]; have := hC.1; omega), ?_⟩
            exact ⟨hn, cs ++ [1 + v], _, _, rfl, hCs, by rw [List.length_append]; exact Nat.succ_le_succ hlen, by rw [upd_same, eiv], B9, T9⟩
          · refine ite_F (decide_eq_false (fun z => hu (by injection z))) ?_
            exact ⟨hn, cs, _, _, rfl, hC, by omega, hcl8, B8.ext (Ex.refl _) (by omega), T8⟩
      · rintro n σ' H5 ⟨hn, cs, v4, v5, rfl, hC, hlen, hcl5, B5, T5⟩
        exact ⟨cs, v4, v5, rfl, hC, hcl5, B5.ext (Ex.refl _) (by omega), T5⟩
    · rintro σ' H4 ⟨cs, v4, v5, rfl, hC, hcl4, B4, T4⟩
      obtain ⟨p1, p2⟩ := PR_small hC.rev
      have hRl := RR_len hC.rev.2
      have hRr : ∀ r ∈ RR cs.reverse, r.length ≤ 1000 := fun r hr => by
        rw [RR_row hr]
        have := hC.rev.1
        omega
      refine q_asg (ev_call (ea_cons (ev_var rfl) ea_nil) fun H5 e5 Q' q E' => ⟨cl, cs, rfl, sq_of (e5 _ _ hcl4), hC, q⟩) fun H5 e5 => ?_
      have hcl5 := e5 _ _ hcl4
      have B5 := B4.ext (m := 50 * t + 20) e5 (by omega)
      have T5 := T4.ext e5
      obtain ⟨xb5, hb5⟩ := bag_lst B5
      refine ⟨_, rfl, cl, _, rfl, .inl (sq_of hcl5), fun l1 hl1 => ⟨_, rfl, cl, _, rfl, .inl ⟨sq_of ((Ex.new hl1) _ _ hcl5), fun l2 hl2 => ⟨sz_of (by simp), fun l3 hl3 => ⟨_, rfl, b, l, ns, 50 * t + 20, 2, rfl, B5.ext (((Ex.new hl1).trans (Ex.new hl2)).trans (Ex.new hl3)) (Nat.le_refl _), by omega, by decide, by decide, fun u H6 u0 u1 B6 b6 => ?_⟩⟩⟩⟩⟩
      have y3 := Ex.new (o := .lst [V.ref l1, .ref l2]) hl3
      have y2 := (Ex.new (o := .tup (iv cs)) hl2).trans y3
      have y1 := (Ex.new (o := .lst (iv cs)) hl1).trans y2
      have nl1 : l1 ≠ b := bag_ne B5 hl1
      have nl2 : l2 ≠ b := bag_ne (B5.ext (m := 50 * t + 20) (Ex.new (o := .lst (iv cs)) hl1) (Nat.le_refl _)) hl2
      have nl3 : l3 ≠ b := bag_ne (B5.ext (m := 50 * t + 20) ((Ex.new (o := .lst (iv cs)) hl1).trans (Ex.new (o := .tup (iv cs)) hl2)) (Nat.le_refl _)) hl3
      have h3 := b6 _ _ (upd_same (H := _) (a := l3) (o := .lst [V.ref l1, .ref l2])) nl3
      have h2 := b6 _ _ (y3 _ _ (upd_same (H := _) (a := l2) (o := .tup (iv cs)))) nl2
      have h1 := b6 _ _ (y2 _ _ (upd_same (H := _) (a := l1) (o := .lst (iv cs)))) nl1
      have hcl6 := b6 _ _ (y1 _ _ hcl5) ncl
      have T6 := tabs_but (T5.ext y1) (y1 _ _ hb5) b6
      obtain ⟨hd, hat, S6⟩ : ∃ hd, atI [V.ref l1, .ref l2] u = some (.ref hd) ∧ S23 [(pt, lamQ)] ns cs b l cl hd (50 * t + 21) H6 := by
        obtain rfl | rfl : u = 0 ∨ u = 1 := by omega
        · exact ⟨l1, rfl, ⟨B6, hcl6, ncl, .inl h1, nl1, T6⟩⟩
        · exact ⟨l2, rfl, ⟨B6, hcl6, ncl, .inr h2, nl2, T6⟩⟩
      refine ⟨l3, _, u, _, rfl, rfl, sq_of h3, hat, ?_⟩
      dsimp only [gName, List.set]
      refine q_cut (M := fun σ' H' => ∃ p : Addr, σ' = [some (.ref a), some (.ref b), some (.int (t : Int)), some (.ref cl), v4, v5, some (.int (PR cs.reverse)), some (.ref hd), some (.ref p), v9, v10, v11, v12, v13, v14] ∧ S23 [(pt, lamQ)] ns cs b l cl hd (50 * t + 21) H' ∧ (PR cs.reverse > 200 → H' p = some (.tup [.str "toomany"])) ∧ (PR cs.reverse ≤ 200 → ∃ (r : Addr) (ps : List Addr), H' p = some (.tup [.str "told", .ref r]) ∧ H' r = some (.lst (ps.map V.ref)) ∧ RowsA H' ps (RR cs.reverse))) ?_ ?_
      · refine ⟨S6.tabs, fun f1 c1 H7 eN7 _ T7 _ hf1 hc1 base' up clo => ?_⟩
        have S7 := S6.extN eN7 T7
        refine tried_of (k := 4) (fr := ["_law_handed"]) (ws := [some (.ref hd)]) (sp := fun ws vs H Q E => vs = [] ∧ tCall (spAllR K CT) [.int 200] E (tCons (tVar 0) tNil) (NdefX.startF ["_law_handed"] [] ws) H Q) ?LO ?CC rfl hf1 hc1 fun Q' E' hE hQ => ⟨rfl, _, rfl, hd, 200, cs, rfl, S7.q, hC, fun hgt d H8 e8 n8 hd8 => hE CT d "toomany" H8 wT hd8 fun p hp => ?_, fun hle r ps H8 nr e8 hr8 hR8 => hQ _ H8 fun p hp => ?_⟩
        case LO => exact lok_gen rfl (NdefX.nscope_by (by rfl)) fun A outer s H f E hr => pe_ownT (OA base' up) hr (Nat.le_refl _) rfl (passes_call (E := E) (takes_of rfl rfl rfl rfl) (fun _ _ _ _ h => h)) (pa_cons (pe_var (i := 0) rfl (.inr (.inr rfl))) pa_nil)
        case CC =>
          refine clo _ ["_law_handed"] [7] fun ok => ?_
          dsimp only
          refine caps_ns ok ?_ ?_ rfl
          · exact free_by (sc := defScope sLaw) (by decide +kernel)
          · decide +kernel
        · exact ⟨p, rfl, S7.ext (e8.trans (Ex.new hp)) (Nat.le_refl _), fun _ => upd_same, fun h => absurd hgt (by omega)⟩
        · have ep := Ex.new (o := .tup [V.str "told", .ref r]) hp
          exact ⟨p, rfl, S7.ext (e8.trans ep) (Nat.le_refl _), fun h => absurd h (by omega), fun _ => ⟨r, ps, upd_same, ep _ _ hr8, hR8.ext ep⟩⟩
      · rintro σ' H7 ⟨p, rfl, S7, hpT, hpR⟩
        refine q_when (et_sameI (K := K) (x := PR cs.reverse) (ev_call (ea_cons (ev_var rfl) ea_nil) fun H8 e8 Q' q E' => ⟨hd, cs, rfl, S7.q.ext e8, hC, q⟩) (ev_var rfl)) (fun ht => Bool.noConfusion ht) (fun _ H8 e8 => ?_)
        have S8 := S7.ext (m := 50 * t + 21) e8 (Nat.le_refl _)
        refine q_cut (M := fun σ' H' => ∃ v8 v9 v10 : Option V, σ' = [some (.ref a), some (.ref b), some (.int (t : Int)), some (.ref cl), v4, v5, some (.int (PR cs.reverse)), some (.ref hd), v8, v9, v10, v11, v12, v13, v14] ∧ S23 [(pt, lamQ)] ns cs b l cl hd (50 * t + 22) H') ?_ ?_
        · have dTm : ∀ {H' : Hp} {p : Addr}, H' p = some (.tup [.str "toomany"]) → Dp K H' (.ref p) (.tuple [.str "toomany"]) := fun h => .tup (st_of h) (.cons (.str _) .nil)
          refine s_if (et_test (ev_op (ev_var rfl) ev_c rv_I0)) (fun ht H9 e9 => ?_) (fun ht H9 e9 => ?_)
          · have hgt : PR cs.reverse > 200 := of_decide_eq_true ht
            refine s_when (b := false) (fun H10 e10 Q' q => ?_) (fun ht => Bool.noConfusion ht) (fun _ H10 e10 => ⟨_, _, _, rfl, S8.ext (e9.trans e10) (by omega)⟩)
            refine ⟨_, rfl, sz_of (by simp), fun q9 hq9 => ?_⟩
            have x9 := Ex.new (o := .tup [V.str "toomany"]) hq9
            exact ⟨.tuple [.str "toomany"], .tuple [.str "toomany"], dTm ((((e8.trans e9).trans e10).trans x9) _ _ (hpT hgt)), dTm upd_same, by decide +kernel, by decide +kernel, false, by decide +kernel, q _ x9⟩
          · have hle : PR cs.reverse ≤ 200 := by
              have := of_decide_eq_false ht
              omega
            obtain ⟨r, ps, hp, hr, hR⟩ := hpR hle
            have e89 := e8.trans e9
            have S9 := S8.ext (m := 50 * t + 21) e9 (Nat.le_refl _)
            refine ⟨_, rfl, cl, cs, rfl, sq_of S9.fc, hC, fun dl qs H10 ndl e10 hdl hR10 => ?_⟩
            have S10 := S9.ext (m := 50 * t + 21) e10 (Nat.le_refl _)
            have ndb : dl ≠ b := bag_ne S9.bag ndl
            have e810 := e89.trans e10
            dsimp only [gName, List.set]
            refine q_when (b := false || false) (et_or (a := false) (b := false) ?c1 fun _ => ?c2) (fun ht => Bool.noConfusion ht) (fun _ H11 e11 => ?_)
            case c1 =>
              intro H11 e11 Q' q
              refine ⟨_, rfl, _, rfl, sz_of (by simp), fun tp htp => ⟨_, _, rfl, ?_, fun H12 e12 => ⟨true, rfl, q H12 ((Ex.new htp).trans e12)⟩⟩⟩
              have x := Ex.new (o := .tup [V.str "told", .ref dl]) htp
              have ea := (e810.trans e11).trans x
              have eb := e11.trans x
              refine .inr ⟨p, tp, _, _, rfl, rfl, .inr ⟨st_of (ea _ _ hp), st_of upd_same⟩, rfl, by show 2 ≤ 1000; decide, fun i x y hx hy => ?_⟩
              match i, hx, hy with
              | 0, hx, hy => cases hx; cases hy; exact sm_flat rfl
              | 1, hx, hy => cases hx; cases hy; exact sm_rows (d := 0) (ea _ _ hr) (eb _ _ hdl) (hR.ext ea) (hR10.ext eb) (by omega) hRr
              | i + 2, hx, hy => cases hx
            case c2 =>
              intro H11 e11 Q' q
              exact ⟨_, rfl, _, rfl, rfl, rfl, hd, _, cs, rfl, S10.q.ext e11, hC, fun h => absurd h (by omega), fun _ r2 ps2 H12 n12 e12 hr2 hR2 => ⟨_, rfl, _, _, rfl, sm_rows (d := 1) hr2 ((e11.trans e12) _ _ hdl) hR2 (hR10.ext (e11.trans e12)) (by omega) hRr, fun H13 e13 => ⟨true, rfl, q H13 (e12.trans e13)⟩⟩⟩
            have S11 := S10.ext (m := 50 * t + 21) e11 (Nat.le_refl _)
            refine ⟨_, rfl, _, rfl, b, l, ns, _, PR cs.reverse, rfl, S11.bag, by omega, by omega, Int.lt_of_le_of_lt hle (by decide), fun v H12 v0 v1 B12 b12 => ?_⟩
            obtain ⟨xb11, hb11⟩ := bag_lst S11.bag
            have S12 := S11.but B12 b12
            have hdl12 := b12 _ _ (e11 _ _ hdl) ndb
            have hR12 : RowsA H12 qs (RR cs.reverse) := (hR10.ext e11).keep fun p xs h => b12 _ _ h (ne_of h hb11 (by intro z; cases z))
            have ev : ((v.toNat : Nat) : Int) = v := by omega
            have hrow := RR_at (n := v.toNat) hC.rev.2 (by rw [ev]; exact v1)
            rw [ev] at hrow
            obtain ⟨q1, hq1⟩ : ∃ q1, qs[v.toNat]? = some q1 := ⟨_, List.getElem?_eq_getElem (by rw [hR12.1]; exact (List.getElem?_eq_some_iff.mp hrow).1)⟩
            have hq12 := hR12.2 _ _ _ hq1 hrow
            have hat2 : atI (qs.map V.ref) v = some (.ref q1) := by
              have q := atI_nat (xs := qs.map V.ref) (j := v.toNat) (v := .ref q1) (by rw [List.getElem?_map, hq1] <;> rfl)
              rw [ev] at q
              exact q
            have hgood : GoodR cs (rowR cs.reverse v) := by
              refine ⟨by rw [row_len, List.length_reverse], ?_⟩
              have h := below_row (l := cs.reverse) hC.rev.2 (n := v) (k := cs.length)
              rw [List.reverse_reverse] at h
              exact h
            have hnum : nums cs (rowR cs.reverse v) cs.length = v := by
              have h := nums_row (l := cs.reverse) hC.rev.2 v0 v1
              rw [List.reverse_reverse, List.length_reverse] at h
              exact h
            dsimp only [gName, List.set]
            refine q_when (b := false) ?c3 (fun ht => Bool.noConfusion ht) (fun _ H13 e13 => ?_)
            case c3 =>
              intro H13 e13 Q' q
              refine ⟨_, rfl, _, rfl, hd, v, cs, rfl, S12.q.ext e13, hC, fun h => absurd ⟨v0, v1⟩ h, fun _ r1 H14 nr1 e14 hr1 => ⟨_, rfl, _, rfl, _, rfl, dl, _, v, _, rfl, rfl, sq_of ((e13.trans e14) _ _ hdl12), hat2, hd, q1, cs, rowR cs.reverse v, rfl, S12.q.ext (e13.trans e14), st_of ((e13.trans e14) _ _ hq12), hC, fun h => absurd hgood h, fun _ H15 e15 => ⟨sz_of (by simp), fun L1 hL1 => ⟨_, rfl, _, rfl, dl, _, v, _, rfl, rfl, sq_of ((((e13.trans e14).trans e15).trans (Ex.new hL1)) _ _ hdl12), hat2, _, rfl, sz_of (by simp), fun L2 hL2 => ⟨_, _, rfl, ?_, fun H16 e16 => ⟨true, rfl, q H16 ((((e14.trans e15).trans (Ex.new hL1)).trans (Ex.new hL2)).trans e16)⟩⟩⟩⟩⟩⟩
              have x1 := Ex.new (o := .lst [V.ref r1, .int (nums cs (rowR cs.reverse v) cs.length)]) hL1
              have x2 := Ex.new (o := .lst [V.ref q1, .int v]) hL2
              refine .inr ⟨L1, L2, _, _, rfl, rfl, .inl ⟨sq_of (x2 _ _ upd_same), sq_of upd_same⟩, rfl, by show 2 ≤ 1000; decide, fun i x y hx hy => ?_⟩
              match i, hx, hy with
              | 0, hx, hy => cases hx; cases hy; exact sm_tupF (d := 1) (st_of (((e15.trans x1).trans x2) _ _ hr1)) (st_of (((((e13.trans e14).trans e15).trans x1).trans x2) _ _ hq12)) iv_flat (by rw [List.length_map, row_len]; have := hC.rev.1; omega)
              | 1, hx, hy => cases hx; cases hy; rw [hnum]; exact sm_flat rfl
              | i + 2, hx, hy => cases hx
            have S13 := S12.ext (m := 50 * t + 22) e13 (Nat.le_refl _)
            refine ⟨S13.tabs, fun f1 c1 H14 eN14 _ T14 _ hf1 hc1 base' up clo => ?_⟩
            have S14 := S13.extN eN14 T14
            refine tried_of (k := 4) (fr := ["_law_handed", "_law_every"]) (ws := [some (.ref hd), some (.int (PR cs.reverse))]) (sp := fun ws vs H Q E => vs = [] ∧ tCallN 1 ([("most" : Str)] : List Str).length (spAllR K CT) (fun vs zs => vs ++ zs) E (tCons (tVar 0) tNil) (tCons (tOp (rI0 fun i j => .int (i - j)) (tVar 1) (tC (.int 1))) tNil) (NdefX.startF ["_law_handed", "_law_every"] [] ws) H Q) ?LO2 ?CC2 rfl hf1 hc1 fun Q' E' hE hQ => ⟨rfl, _, rfl, _, rfl, _, _, rfl, rfl, rfl, rfl, hd, PR cs.reverse - 1, cs, rfl, S14.q, hC, fun hgt d H8 e8 n8 hd8 => hE CT d "toomany" H8 wT hd8 fun p hp => ?_, fun h => absurd h (by omega)⟩
            case LO2 => exact lok_gen rfl (NdefX.nscope_by (by rfl)) fun A outer s H f E hr => pe_ownN (ON base' up) hr (Nat.le_refl _) (by rfl) (passes_call (E := E) (takes_of rfl rfl rfl rfl) (fun _ _ _ _ h => h)) (pa_cons (pe_var (i := 0) rfl (.inr (.inr rfl))) pa_nil) (pk_cons (pe_op op_sub (pe_var (i := 1) rfl (.inr (.inr rfl))) pe_int) pk_nil)
            case CC2 =>
              refine clo _ ["_law_handed", "_law_every"] [7, 6] fun ok => ?_
              dsimp only
              refine caps_ns ok ?_ ?_ rfl
              · exact free_by (sc := defScope sLaw) (by decide +kernel)
              · decide +kernel
            refine ⟨sz_of (by simp), fun tq htq => ?_⟩
            have xq := Ex.new (o := .tup [V.str "toomany"]) htq
            have xp := Ex.new (o := .tup [V.str "toomany"]) hp
            exact ⟨.tuple [.str "toomany"], .tuple [.str "toomany"], dTm (xq _ _ upd_same), dTm upd_same, by decide +kernel, by decide +kernel, false, by decide +kernel, ite_F rfl ⟨_, _, _, rfl, S14.ext ((e8.trans xp).trans xq) (by omega)⟩⟩
        · rintro σ' H9 ⟨v8, v9, v10, rfl, S9⟩
          have l5 := hC.1
          refine q_asgT23 (xs := iv (zeros cs.length)) ?lc fun rw0 H10 nrw e10 hrw => ?_
          case lc =>
            rw [← zeros_given]
            exact eu_tuple (K := K) <| el_lcL (K := K) (xs := iv cs) (fun _ => true) (fun _ => .int 0) (ev_var rfl) (sq_of S9.fc) (by rw [List.length_map]; omega) (fun _ => rfl) (fun _ _ _ _ _ => et_yes) (fun _ _ _ _ _ _ => ev_c)
          have S10 := S9.ext (m := 50 * t + 22) e10 (Nat.le_refl _)
          dsimp only [gName, List.set]
          refine ⟨sz_of (by simp), fun z hz => ⟨_, rfl, z, cl, _, _, rfl, rfl, upd_same, (Ex.new hz) _ _ S10.fc, Nat.le_of_lt (sz_rows (by simp only [List.length_map, List.length_cons, List.length_nil]; omega)), fun L hL => ⟨1, rfl, L, _, -1, _, rfl, rfl, sq_of upd_same, last_at, ?_⟩⟩⟩
          have xL := (Ex.new (o := .lst [V.int 0]) hz).trans (Ex.new (o := .lst ([V.int 0] ++ iv cs)) hL)
          have S11 := S10.ext (m := 50 * t + 22) xL (Nat.le_refl _)
          have hrw11 := xL _ _ hrw
          obtain ⟨b1, b2⟩ := last_bd hC
          generalize upd (upd H10 z (.lst [V.int 0])) L (.lst ([V.int 0] ++ iv cs)) = H11 at S11 hrw11 ⊢
          have zl : ∀ n, (iv (zeros n)).length = n := fun n => by rw [List.length_map, zeros, List.length_replicate]
          dsimp only [gName, List.set]
          refine ⟨_, rfl, ?_⟩
          refine eq_cat (eq_ev (ev_var rfl) hrw11) (eu_tup (vs := [.int 0]) (ea_cons ev_c ea_nil) (by simp)) (by simp) (by rw [zl]; simp; omega) H11 (Ex.refl H11) _ fun t1 H12 e12 ht1 => ?_
          refine eq_cat (eq_sl (ev_var rfl) eo_none (eo_some (ev_un ev_c ru_neg)) (e12 _ _ hrw11)) (eu_tup (vs := [.int (lastOf cs)]) (ea_cons (ev_var rfl) ea_nil) (by simp)) (by simp) (by rw [zeros_cut, zl]; simp; omega) H12 (Ex.refl H12) _ fun t2 H13 e13 ht2 => ?_
          refine eq_cat (eq_sl (ev_var rfl) eo_none (eo_some (ev_un ev_c ru_neg)) ((e12.trans e13) _ _ hrw11)) (eu_tup (vs := [.int (-1)]) (ea_cons (ev_un ev_c ru_neg) ea_nil) (by simp)) (by simp) (by rw [zeros_cut, zl]; simp; omega) H13 (Ex.refl H13) _ fun t3 H14 e14 ht3 => ?_
          rw [zeros_cut] at ht2 ht3
          have S14 := S11.ext (m := 50 * t + 22) ((e12.trans e13).trans e14) (Nat.le_refl _)
          refine ⟨sz_of (by simp), fun ol hol => ⟨b, l, ol, ns, _, [.ref t1, .ref t2, .ref t3], rfl, S14.bag.ext (Ex.new hol) (Nat.le_refl _), by omega, upd_same, bag_ne S14.bag hol, (by simp), (by simp), fun v H15 hv B15 b15 => ?_⟩⟩
          have xo := Ex.new (o := .lst [V.ref t1, .ref t2, .ref t3]) hol
          have So := S14.ext (m := 50 * t + 22) xo (Nat.le_refl _)
          have S15 := So.but B15 b15
          obtain ⟨xbo, hbo⟩ := bag_lst So.bag
          have tb : ∀ p xs, upd H14 ol (.lst [V.ref t1, .ref t2, .ref t3]) p = some (.tup xs) → H15 p = some (.tup xs) := fun p xs h => b15 _ _ h (ne_of h hbo (by intro z; cases z))
          obtain ⟨od, ro, rfl, hod, hbad⟩ : ∃ od ro, v = .ref od ∧ H15 od = some (.tup (iv ro)) ∧ ¬ GoodR cs ro := by
            simp only [List.mem_cons, List.not_mem_nil, or_false] at hv
            rcases hv with rfl | rfl | rfl
            · refine ⟨t1, _, rfl, tb _ _ (xo _ _ ((e13.trans e14) _ _ ?_)), bad_long⟩
              rw [ht1]
              simp [iv]
            · refine ⟨t2, _, rfl, tb _ _ (xo _ _ (e14 _ _ ?_)), bad_end (.inl rfl)⟩
              rw [ht2]
              simp [iv]
            · refine ⟨t3, _, rfl, tb _ _ (xo _ _ ?_), bad_end (.inr rfl)⟩
              rw [ht3]
              simp [iv]
          dsimp only [gName, List.set]
          -- three functions, kept in a list
          refine ⟨S15.tabs, fun f1 c1 H16 eN16 _ T16 _ hf1 hc1 => ⟨sz_of (by simp), fun al hal => ?_⟩⟩
          have S16 := S15.extN eN16 T16
          have eA := Ex.new (o := .lst [V.ref f1]) hal
          obtain ⟨na1, na2, na3, na4⟩ := S16.fresh hal
          have S17 := S16.ext (m := 50 * t + 23) eA (Nat.le_refl _)
          have hod17 := eA _ _ (eN16 _ _ hod (fun _ z => by cases z))
          have hf17 := eA _ _ hf1
          have hc17 := eA _ _ hc1
          have lamL : ∀ {f : Addr} {F : LF} (ys : List V), LamO f F ≠ .lst ys := fun ys z => by
            unfold LamO at z
            cases z
          have codL : ∀ {c : Addr} {q : Str} (ys : List V), LamX.CodeO c q ≠ .lst ys := fun ys z => by
            unfold LamX.CodeO at z
            cases z
          refine ⟨_, rfl, .inl ⟨rfl, _, sq_of upd_same⟩, S17.tabs, fun f2 c2 H18 eN18 _ T18 _ hf2 hc2 => ⟨al, _, _, rfl, rfl, eN18 _ _ upd_same (fun _ z => by cases z), sz_of (by simp), ?_⟩⟩
          have hal18 := eN18 al _ upd_same (fun _ z => by cases z)
          have up18 : ∀ q u, H18 q = some u → (∀ ys, u ≠ .lst ys) → upd H18 al (.lst ([.ref f1] ++ [.ref f2])) q = some u := fun q u h n => by
            rw [upd_ne (ne_of h hal18 (n _))]
            exact h
          have S19 := (S17.extN eN18 T18).upd (o := .lst ([.ref f1] ++ [.ref f2])) hal18 na1 na2 na3 na4
          have hod19 := up18 _ _ (eN18 _ _ hod17 (fun _ z => by cases z)) (fun _ z => by cases z)
          have hf19 := up18 _ _ (eN18 _ _ hf17 lamO_ne) lamL
          have hc19 := up18 _ _ (eN18 _ _ hc17 LamX.codeO_ne) codL
          have hg19 := up18 _ _ hf2 lamL
          have hd19 := up18 _ _ hc2 codL
          refine ⟨_, rfl, .inl ⟨rfl, _, sq_of upd_same⟩, S19.tabs, fun f3 c3 H20 eN20 _ T20 _ hf3 hc3 => ⟨al, _, _, rfl, rfl, eN20 _ _ upd_same (fun _ z => by cases z), sz_of (by simp), ?_⟩⟩
          have hal20 := eN20 al _ upd_same (fun _ z => by cases z)
          have up20 : ∀ q u, H20 q = some u → (∀ ys, u ≠ .lst ys) → upd H20 al (.lst (([.ref f1] ++ [.ref f2]) ++ [.ref f3])) q = some u := fun q u h n => by
            rw [upd_ne (ne_of h hal20 (n _))]
            exact h
          have S21 := (S19.extN eN20 T20).upd (o := .lst (([.ref f1] ++ [.ref f2]) ++ [.ref f3])) hal20 na1 na2 na3 na4
          have hod21 := up20 _ _ (eN20 _ _ hod19 (fun _ z => by cases z)) (fun _ z => by cases z)
          have hf21 := up20 _ _ (eN20 _ _ hf19 lamO_ne) lamL
          have hc21 := up20 _ _ (eN20 _ _ hc19 LamX.codeO_ne) codL
          have hg21 := up20 _ _ (eN20 _ _ hg19 lamO_ne) lamL
          have hd21 := up20 _ _ (eN20 _ _ hd19 LamX.codeO_ne) codL
          have hh21 := up20 _ _ hf3 lamL
          have hi21 := up20 _ _ hc3 codL
          have hal21 : upd H20 al (.lst (([.ref f1] ++ [.ref f2]) ++ [.ref f3])) al = some (.lst ([f1, f2, f3].map V.ref)) := upd_same
          generalize upd H20 al (.lst (([.ref f1] ++ [.ref f2]) ++ [.ref f3])) = H21 at S21 hod21 hf21 hc21 hg21 hd21 hh21 hi21 hal21 ⊢
          dsimp only
          refine s_when (b := false || false) (et_or (a := false) (b := false) ?tst fun _ => et_neL (el_listOf rfl S21.q) (ev_var rfl) (fun p H' e hp => .lst (sq_of hp) dp_ints) (fun H' e => .lst (sq_of (e _ _ S21.fc)) dp_ints) (shapedI cs) (eqvI cs)) (fun ht => Bool.noConfusion ht) (fun _ H22 e22 => ?_)
          case tst =>
            intro H' e Q' q
            refine ⟨_, rfl, fun base' up clo => ⟨al, [f1, f2, f3], [[.str "badsetting"], [.str "badsetting"], [.str "badsetting"]], rfl, sq_of (e _ _ hal21), rfl, by show 3 ≤ 1000; decide, fun i g xs hg hx => ?_, fun p ps H2 hp e2 hps hl3 tups => ?_⟩⟩
            · match i, hg, hx with
              | 0, hg, hx =>
                cases hg; cases hx
                refine tells_fly (fr := ["_law_handed", "_law_odd"]) (ws := [some (.ref hd), some (.ref od)]) (sp := fun ws vs H Q E => vs = [] ∧ ∃ v1 v2, ws = [some v1, some v2] ∧ spNum K CB [v1, v2] H Q E) ?LO0 ?CC0 rfl (e _ _ hf21) (e _ _ hc21) wB fun H3 Q3 E3 e3 fl => ⟨rfl, .ref hd, .ref od, rfl, hd, od, cs, ro, rfl, S21.q.ext (e.trans e3), st_of ((e.trans e3) _ _ hod21), hC, fun _ => fl, fun h => absurd h hbad⟩
                case LO0 => exact lok_call2 (g := "row_number") (x1 := "_law_handed") (x2 := "_law_odd") rfl rfl (NdefX.nscope_by (by rfl)) rfl (OU base' up)
                case CC0 =>
                  refine clo _ ["_law_handed", "_law_odd"] [7, 13] fun ok => ?_
                  dsimp only
                  refine caps_ns ok ?_ ?_ rfl
                  · exact free_by (sc := defScope sLaw) (by decide +kernel)
                  · decide +kernel
              | 1, hg, hx =>
                cases hg; cases hx
                refine tells_fly (fr := ["_law_handed", "_law_every"]) (ws := [some (.ref hd), some (.int (PR cs.reverse))]) (sp := fun ws vs H Q E => vs = [] ∧ ∃ v1 v2, ws = [some v1, some v2] ∧ spAtR K CB [v1, v2] H Q E) ?LO1 ?CC1 rfl (e _ _ hg21) (e _ _ hd21) wB fun H3 Q3 E3 e3 fl => ⟨rfl, .ref hd, .int (PR cs.reverse), rfl, hd, PR cs.reverse, cs, rfl, S21.q.ext (e.trans e3), hC, fun _ => fl, fun h => absurd h (by omega)⟩
                case LO1 => exact lok_call2 (g := "row_at") (x1 := "_law_handed") (x2 := "_law_every") rfl rfl (NdefX.nscope_by (by rfl)) rfl (OT base' up)
                case CC1 =>
                  refine clo _ ["_law_handed", "_law_every"] [7, 6] fun ok => ?_
                  dsimp only
                  refine caps_ns ok ?_ ?_ rfl
                  · exact free_by (sc := defScope sLaw) (by decide +kernel)
                  · decide +kernel
              | 2, hg, hx =>
                cases hg; cases hx
                refine tells_fly (fr := ["_law_handed"]) (ws := [some (.ref hd)]) (sp := fun ws vs H Q E => vs = [] ∧ tCall (spAtR K CB) [] E (tCons (tVar 0) (tCons (tUn (rU fun i => .int (-i)) (tC (.int 1))) tNil)) (NdefX.startF ["_law_handed"] [] ws) H Q) ?LO2 ?CC2 rfl (e _ _ hh21) (e _ _ hi21) wB fun H3 Q3 E3 e3 fl => ⟨rfl, _, rfl, 1, rfl, hd, -1, cs, rfl, S21.q.ext (e.trans e3), hC, fun _ => fl, fun h => absurd h.1 (by decide)⟩
                case LO2 => exact lok_gen rfl (NdefX.nscope_by (by rfl)) fun A outer s H f E hr => pe_ownT (OT base' up) hr (Nat.le_refl _) (by rfl) (passes_call (E := E) (takes_of rfl rfl rfl rfl) (fun _ _ _ _ h => h)) (pa_cons (pe_var (i := 0) rfl (.inr (.inr rfl))) (pa_cons (pe_un un_neg pe_int) pa_nil))
                case CC2 =>
                  refine clo _ ["_law_handed"] [7] fun ok => ?_
                  dsimp only
                  refine caps_ns ok ?_ ?_ rfl
                  · exact free_by (sc := defScope sLaw) (by decide +kernel)
                  · decide +kernel
              | i + 3, hg, hx => cases hg
            · obtain ⟨r1, r2, r3, rfl⟩ : ∃ r1 r2 r3, ps = [r1, r2, r3] := match ps, hl3 with
                | [r1, r2, r3], _ => ⟨r1, r2, r3, rfl⟩
              refine ⟨sz_of (by simp), fun tp2 htp2 => ⟨sz_of (by simp), fun l2 hl2 => ⟨l2, 3, [.ref tp2], rfl, rfl, upd_same, by decide, by decide, sz_of (by simp), fun rp hrp => ?_⟩⟩⟩
              have x1 := Ex.new (o := .tup [V.str "badsetting"]) htp2
              have x2 := x1.trans (Ex.new (o := .lst [V.ref tp2]) hl2)
              have x3 := x2.trans (Ex.new (o := .lst [V.ref tp2, .ref tp2, .ref tp2]) hrp)
              have dB : ∀ {H' : Hp} {p : Addr}, H' p = some (.tup [.str "badsetting"]) → Dp K H' (.ref p) (.tuple [.str "badsetting"]) := fun h => .tup (st_of h) (.cons (.str _) .nil)
              have k1 := dB (x3 _ _ (tups 0 r1 _ rfl rfl))
              have k2 := dB (x3 _ _ (tups 1 r2 _ rfl rfl))
              have k3 := dB (x3 _ _ (tups 2 r3 _ rfl rfl))
              have k4 := dB (((Ex.new (o := .lst [V.ref tp2]) hl2).trans (Ex.new (o := .lst [V.ref tp2, .ref tp2, .ref tp2]) hrp)) _ _ (upd_same (H := H2) (a := tp2) (o := .tup [V.str "badsetting"])))
              exact ⟨.list [.tuple [.str "badsetting"], .tuple [.str "badsetting"], .tuple [.str "badsetting"]], .list [.tuple [.str "badsetting"], .tuple [.str "badsetting"], .tuple [.str "badsetting"]], .lst (sq_of (x3 _ _ hps)) (.cons k1 (.cons k2 (.cons k3 .nil))), .lst (sq_of upd_same) (.cons k4 (.cons k4 (.cons k4 .nil))), by decide +kernel, by decide +kernel, false, by decide +kernel, q _ (e2.trans x3)⟩
          exact ⟨⟨_, _, _, _, _, _, _, _, _, _, _, _, _, rfl⟩, S21.bag.ext e22 (by omega), S21.tabs.ext e22⟩
  · rintro σ' H2 ⟨⟨v2, v3, v4, v5, v6, v7, v8, v9, v10, v11, v12, v13, v14, rfl⟩, B2, T2⟩
    refine ⟨rfl, _, rfl, ite_T (decide_eq_true rfl) ?_⟩
    refine ⟨sz_of (by simp), fun el hel => ⟨el, 200, [], rfl, .inl (sq_of upd_same), ⟨by decide, fun c hc => by cases hc⟩, fun h => absurd h (by decide), fun _ r ps H3 nr e3 hr3 hR3 => ⟨sz_of (by simp), fun t0 ht0 => ⟨sz_of (by simp), fun l0 hl0 => ?_⟩⟩⟩⟩
    obtain ⟨p0, rfl⟩ : ∃ p0, ps = [p0] := match ps, hR3.1 with
      | [p0], _ => ⟨p0, rfl⟩
    have x1 := Ex.new (o := .tup []) ht0
    have x2 := Ex.new (o := .lst [V.ref t0]) hl0
    have dU : ∀ {H' : Hp} {p : Addr}, H' p = some (.tup []) → Dp K H' (.ref p) (.tuple []) := fun h => .tup (st_of h) .nil
    have d1 := dU ((x1.trans x2) _ _ (hR3.2 0 p0 [] rfl rfl))
    have d2 := dU (x2 _ _ (upd_same (H := H3) (a := t0) (o := .tup [])))
    refine ⟨.list [.tuple []], .list [.tuple []], .lst (sq_of ((x1.trans x2) _ _ hr3)) (.cons d1 .nil), .lst (sq_of upd_same) (.cons d2 .nil), by decide +kernel, by decide +kernel, ?_⟩
    have he : PyData.eqv (.list [.tuple []]) (.list [.tuple []]) = true := by decide +kernel
    rw [he]
    exact k _
end
end Hs
namespace Hs
open PySem PySem.Spec PyProof.Rows L2 Evl
/-! ### the head: what the run of the top leaves -/
def oclsB (K : PySem.W.Frag) (C : Addr) (newId : String) (bmB : List Value) : Bool := match K.lookup C with
  | some ⟨.type "type", _, .cls cd, sl⟩ => (match cd.mro, sl.toList with
    | .ref C' :: bm, [_, _, _, _, some (.builtin n), _] => C' == C && n == newId && !cd.hasDel && cd.hasDict && PySem.W.excTail bmB bm
    | _, _ => false)
  | _ => false
theorem ocls_of {K : PySem.W.Frag} {C : Addr} {newId : String} {bmB : List Value} (q : oclsB K C newId bmB = true) : ∃ nm q N bs bm sn sub ab col dd k0 k1 k2 k3 k5, K.lookup C = some (excClassObj nm q C N bs bm true sn sub ab col dd k0 k1 k2 k3 k5 newId) ∧ PySem.W.excTail bmB bm = true := by
  unfold oclsB at q
  split at q
  · rename_i dd cd sl ho
    split at q
    · rename_i C' bm k0 k1 k2 k3 n k5 hm hs
      simp only [Bool.and_eq_true, beq_iff_eq, Bool.not_eq_true'] at q
      obtain ⟨⟨⟨⟨rfl, rfl⟩, hdel⟩, hdc⟩, ht⟩ := q
      obtain ⟨nm, bs, mro, ns, qn, hd, sn, sub, ab, col, del⟩ := cd
      dsimp only at hm hdel hdc
      subst hm hdel hdc
      have hsl : sl = #[k0, k1, k2, k3, some (.builtin n), k5] := by
        obtain ⟨l⟩ := sl
        simp only at hs
        rw [hs]
      subst hsl
      exact ⟨nm, qn, ns, bs, bm, sn, sub, ab, col, dd, k0, k1, k2, k3, k5, ho, ht⟩
    · cases q
  · cases q
def oexB (K : PySem.W.Frag) (C : Addr) (newId : String) (bmB : List Value) : Bool := oclsB K C newId bmB && (He.eqO (PySem.W.findIn K (.ref C) "__setattr__") (some (some (.builtin "object.__setattr__"))) && (decide (PySem.W.subIn K (.ref C) (.type "BaseException") = some true) && (decide (PySem.W.typeIn K (.ref C) = some (.type "type")) && PySem.W.keepIn K (.ref C))))
theorem oexB_ok {K : PySem.W.Frag} {C : Addr} {newId : String} {bmB : List Value} (h : oexB K C newId bmB = true) : OexG K C newId bmB := by
  obtain ⟨h1, h⟩ := He.ba h
  obtain ⟨h2, h⟩ := He.ba h
  obtain ⟨h3, h⟩ := He.ba h
  obtain ⟨h4, h5⟩ := He.ba h
  exact ⟨ocls_of h1, He.eqO_ok h2, of_decide_eq_true h3, of_decide_eq_true h4, h5⟩
/-- an own error: its class's name, the def of its __init__, its default, the file of its code -/
structure ErrD where
  cls : Str
  qual : Str
  st : Stmt
  why : Str
  file : Str
  bas : String
  nid : String
  iid : String
abbrev FnC : Type := Option (Str × Str × Arguments × FuncBody × Scope × Addr × List Str × Addr)
def iniA (K : PySem.W.Frag) (x : Str) : Addr := He.ma K (He.ga K x) "__init__"
def fnC (K : PySem.W.Frag) (x : Str) : FnC := match K.lookup (iniA K x) with
  | some ⟨_, _, .func fd, _⟩ => some (fd.name, fd.qualname, fd.params, fd.body, fd.scope, fd.globals, fd.closure.map (·.1), fd.builtins)
  | _ => none
def ErrD.val (d : ErrD) : FnC := some ("__init__", d.qual, defArgs d.st, .stmts (defBody d.st), defScope d.st, mainGlobals, ["__class__"], builtinsNs)
def fileB (K : PySem.W.Frag) (c : Addr) (file : Str) : Bool := match K.lookup c with
  | some ⟨_, _, .fields vs, _⟩ => (match (vs[2]? : Option Value) with
    | some (.str f _) => file == f
    | _ => false)
  | _ => false
def cellB (K : PySem.W.Frag) (cc C : Addr) : Bool := match K.lookup cc with
  | some ⟨_, _, .cell (some (.ref C')), _⟩ => decide (C' = C)
  | _ => false
def fileV (K : PySem.W.Frag) (file : Str) : Value → Bool
  | .ref c => fileB K c file
  | _ => false
def cloB (K : PySem.W.Frag) (C : Addr) : List (Str × Addr) → Bool
  | [(_, cc)] => cellB K cc C
  | _ => false
/-- the __init__ of d: its code object, its cell -/
def iniB (K : PySem.W.Frag) (d : ErrD) : Bool := match K.lookup (iniA K d.cls) with
  | some ⟨_, _, .func fd, _⟩ => PySem.W.codeIn K fd.code d.qual && (He.dflB K fd.defaults [.str d.why] && (fileV K d.file fd.code && cloB K (He.ga K d.cls) fd.closure))
  | _ => false
def errB (K : PySem.W.Frag) (d : ErrD) : Bool := oexB K (He.ga K d.cls) d.nid (tailOf d.bas) && (iniB K d && (decide (PySem.W.mroIn K (He.ga K d.cls) (.ref (He.ga K d.cls)) = some true) && (He.eqO (PySem.W.ks_superIn K (He.ga K d.cls) (He.ga K d.cls) "__init__") (some (some (.builtin d.iid))) &&
  (decide (PySem.W.subIn K (.ref (He.ga K d.cls)) (.type d.bas) = some true) && (He.eqO (PySem.W.nsIn K cStatics "thirdparty.any") (some none) && (He.eqO (PySem.W.findIn K (.ref (He.ga K d.cls)) "__init__") (some (some (.ref (iniA K d.cls)))) &&
  (decide (PySem.W.typeIn K (.ref (iniA K d.cls)) = some (.type "function")) && He.eqO (PySem.W.findIn K (.ref (He.ga K d.cls)) "word") (some none))))))))
theorem fileB_ok {K : PySem.W.Frag} {c : Addr} {file : Str} (h : fileB K c file = true) : ∃ (ccl : Value) (cdd : Option Addr) (vs : Array Value) (ccs : Array (Option Value)) (f : Str) (tf : Tok), K.lookup c = some ⟨ccl, cdd, .fields vs, ccs⟩ ∧ vs[2]? = some (.str f tf) ∧ (file == f) = true := by
  unfold fileB at h
  split at h
  · rename_i ccl cdd vs ccs hk
    split at h
    · rename_i f tf hv
      exact ⟨ccl, cdd, vs, ccs, f, tf, hk, hv, h⟩
    · cases h
  · cases h
theorem cellB_ok {K : PySem.W.Frag} {cc C : Addr} (h : cellB K cc C = true) : ∃ (cl : Value) (cld : Option Addr) (csl : Array (Option Value)), K.lookup cc = some ⟨cl, cld, .cell (some (.ref C)), csl⟩ := by
  unfold cellB at h
  split at h
  · rename_i cl cld C' csl hk
    have e : C' = C := of_decide_eq_true h
    subst e
    exact ⟨cl, cld, csl, hk⟩
  · cases h
theorem iniB_ok {K : PySem.W.Frag} {d : ErrD} (e : fnC K d.cls = d.val) (h : iniB K d = true) :
    ∃ (c cc : Addr) (fd : FuncData), InitAt K d.qual d.st (iniA K d.cls) c cc [.str d.why] fd ∧ (∃ (ccl : Value) (cdd : Option Addr) (vs : Array Value) (ccs : Array (Option Value)) (f : Str) (tf : Tok), K.lookup c = some ⟨ccl, cdd, .fields vs, ccs⟩ ∧ vs[2]? = some (.str f tf) ∧ (d.file == f) = true) ∧
      ∃ (cl : Value) (cld : Option Addr) (csl : Array (Option Value)), K.lookup cc = some ⟨cl, cld, .cell (some (.ref (He.ga K d.cls))), csl⟩ := by
  unfold fnC at e
  unfold iniB at h
  cases q : K.lookup (iniA K d.cls) with
  | none =>
    rw [q] at h
    cases h
  | some o =>
    obtain ⟨oc, od, dt, osl⟩ := o
    rw [q] at h e
    cases dt with
    | func fd =>
      obtain ⟨n1, n2, n3, n4, n5, n6, n7, n8, n9, n10, n11, n12, n13, n14, n15⟩ := fd
      have e2 : (some (n1, n2, n3, n4, n5, n6, n7.map (·.1), n15) : FnC) = (some (("__init__" : Str), d.qual, defArgs d.st, FuncBody.stmts (defBody d.st), defScope d.st, mainGlobals, [("__class__" : Str)], builtinsNs) : FnC) := e
      simp only [Option.some.injEq, Prod.mk.injEq] at e2
      obtain ⟨h1, h2, h3, h4, h5, h6, h7, h8⟩ := e2
      subst h1 h2 h3 h4 h5 h6 h8
      have h0 : (PySem.W.codeIn K n13 d.qual && (He.dflB K n8 [.str d.why] && (fileV K d.file n13 && cloB K (He.ga K d.cls) n7))) = true := h
      obtain ⟨k1, h0⟩ := He.ba h0
      obtain ⟨k2, h0⟩ := He.ba h0
      obtain ⟨k3, k4⟩ := He.ba h0
      obtain ⟨c, rfl⟩ := He.codeIn_ref k1
      clear e h
      cases n7 with
      | nil => cases h7
      | cons z r =>
        cases r with
        | cons z2 r2 =>
          injection h7 with _ h9
          cases h9
        | nil =>
          obtain ⟨y, cc⟩ := z
          have ey : y = "__class__" := by
            have z : [y] = [("__class__" : Str)] := h7
            injection z
          subst ey
          exact ⟨c, cc, _, ⟨oc, od, n8, n9, n10, n11, n12, n14, osl, rfl, q, k1, He.dflB_ok k2⟩, fileB_ok k3, cellB_ok k4⟩
    | _ => cases h
/-! ### the Hook -/
/-- what is looked at: the module's names, and the statics -/
def asY (n : Nat) (g : Addr → Option Obj) : List Addr := cStatics :: He.asD g n
structure SaysY (fa : List He.Fa) (fn : List He.DefD) (tf : List He.Defn) (er : List ErrD) (ex : PySem.W.Frag → Bool) (w : World) (h : Heap) (K : PySem.W.Frag) : Prop where
  x : He.SaysX fa fn [] tf ex w h K
  er : ∀ d ∈ er, errB K d = true ∧ fnC K d.cls = d.val
abbrev AlY : Type := He.AlX × (Bool × List FnC)
def obsK (fa : List He.Fa) (fn : List He.DefD) (tf : List He.Defn) (er : List ErrD) (ex : PySem.W.Frag → Bool) (g : Addr → Option Obj) (K : PySem.W.Frag) : AlY := ((He.obsT fa fn [] K, ex K && He.tabsB g tf K), er.all (errB K), er.map fun d => fnC K d.cls)
def obsY (n : Nat) (fa : List He.Fa) (fn : List He.DefD) (tf : List He.Defn) (er : List ErrD) (ex : PySem.W.Frag → Bool) (g : Addr → Option Obj) : AlY := obsK fa fn tf er ex g (He.frT g (asY n g))
def valY (fn : List He.DefD) (er : List ErrD) (w : World) : AlY := (He.valX fn [] w, true, er.map ErrD.val)
theorem saysY_of {n : Nat} {fa : List He.Fa} {fn : List He.DefD} {tf : List He.Defn} {er : List ErrD} {ex : PySem.W.Frag → Bool} {w : World} {h : Heap} (e : obsY n fa fn tf er ex h.get? = valY fn er w) : SaysY fa fn tf er ex w h (He.frT h.get? (asY n h.get?)) := by
  have e1 : He.obsT fa fn [] (He.frT h.get? (asY n h.get?)) = He.valT fn [] w := congrArg (fun z : AlY => z.1.1) e
  have e2 : (ex (He.frT h.get? (asY n h.get?)) && He.tabsB h.get? tf (He.frT h.get? (asY n h.get?))) = true := congrArg (fun z : AlY => z.1.2) e
  have e3 : er.all (errB (He.frT h.get? (asY n h.get?))) = true := congrArg (fun z : AlY => z.2.1) e
  have e4 : er.map (fun d => fnC (He.frT h.get? (asY n h.get?)) d.cls) = er.map ErrD.val := congrArg (fun z : AlY => z.2.2) e
  generalize hK : He.frT h.get? (asY n h.get?) = K at e1 e2 e3 e4 ⊢
  obtain ⟨h1, h2⟩ := He.ba e2
  have key : ∀ p ∈ tf, PySem.W.codeHdIn K (He.cT K p).1 (He.cT K p).2 = true ∧ ∃ o, h.get? (He.cT K p).2 = some o ∧ He.emptyTab o = true := fun p hp => by
    obtain ⟨h3, h4⟩ := He.ba (List.all_eq_true.mp h2 p hp)
    refine ⟨h3, ?_⟩
    cases q : h.get? (He.cT K p).2 with
    | none =>
      rw [q] at h4
      cases h4
    | some o =>
      rw [q] at h4
      exact ⟨o, rfl, h4⟩
  refine ⟨⟨e1, h1, fun p hp => (key p hp).1, fun p hp => ?_, fun p hp => ?_⟩, fun d hd => ⟨List.all_eq_true.mp e3 d hd, List.map_inj_left.mp e4 d hd⟩⟩
  · obtain ⟨_, o, q, z⟩ := key p hp
    have y := He.frT_none (as := asY n h.get?) q z
    rw [hK] at y
    exact y
  · obtain ⟨_, o, q, z⟩ := key p hp
    rw [q, He.emptyTab_eq z]
def hookY (n : Nat) (fa : List He.Fa) (fn : List He.DefD) (tf : List He.Defn) (er : List ErrD) (ex : PySem.W.Frag → Bool) : PySem.W.Hook where
  α := AlY
  obs := fun s => obsY n fa fn tf er ex s.heap.get?
  val := fun w => valY fn er w
  says := fun w h => ∃ K : PySem.W.Frag, K.In h ∧ SaysY fa fn tf er ex w h K
  of := fun _ _ e => ⟨_, He.frT_in, saysY_of e⟩
  keeps := fun _ _ _ ⟨K, hK, c⟩ k => ⟨K, PySem.W.Frag.In.keeps hK k, ⟨⟨c.x.t, c.x.more, c.x.hd, c.x.out, fun p hp => k _ _ (c.x.empty p hp)⟩, c.er⟩⟩
theorem obsY_eq {n : Nat} {fa : List He.Fa} {fn : List He.DefD} {tf : List He.Defn} {er : List ErrD} {ex : PySem.W.Frag → Bool} {g : Addr → Option Obj} {s : Shared} (h : ∀ a, g a = s.heap.get? a) : obsY n fa fn tf er ex g = (hookY n fa fn tf er ex).obs s := by
  have e : g = s.heap.get? := funext h
  rw [e] <;> rfl
end Hs
namespace Hs
open PySem PySem.Spec PyProof.Rows L2 Evl
/-! ### the facts of the top -/
def dsMany : He.DefD := ⟨("how_many", none), "how_many", "how_many", defArgs sMany, defBody sMany, defScope sMany, [], []⟩
def dsAllR : He.DefD := ⟨("all_rows", none), "all_rows", "all_rows", defArgs sAllR, defBody sAllR, defScope sAllR, [], [("most", .int 200)]⟩
def dsNum : He.DefD := ⟨("row_number", none), "row_number", "row_number", defArgs sNum, defBody sNum, defScope sNum, [], []⟩
def dsAtR : He.DefD := ⟨("row_at", none), "row_at", "row_at", defArgs sAtR, defBody sAtR, defScope sAtR, [], []⟩
def dsBag : He.DefD := ⟨("_law_bag", none), "_law_bag", "_law_bag", defArgs sBag, defBody sBag, defScope sBag, [], []⟩
def dsPull : He.DefD := ⟨("_law_pull", none), "_law_pull", "_law_pull", defArgs sPull, defBody sPull, defScope sPull, [], []⟩
def dsOne : He.DefD := ⟨("_law_one", none), "_law_one", "_law_one", defArgs sOne, defBody sOne, defScope sOne, [], []⟩
def dsSame : He.DefD := ⟨("_law_same", none), "_law_same", "_law_same", defArgs sSame, defBody sSame, defScope sSame, [], []⟩
def dsAll : He.DefD := ⟨("_law_all_tried", none), "_law_all_tried", "_law_all_tried", defArgs sAll, defBody sAll, defScope sAll, [], []⟩
def dsTried : He.DefD := ⟨("_law_tried", none), "_law_tried", "_law_tried", defArgs sTried, defBody sTried, defScope sTried, [], []⟩
def dsProd : He.DefD := ⟨("_law_product", none), "_law_product", "_law_product", defArgs sProd, defBody sProd, defScope sProd, [], []⟩
def dsRowsL : He.DefD := ⟨("_law_rows", none), "_law_rows", "_law_rows", defArgs sRowsL, defBody sRowsL, defScope sRowsL, [], []⟩
def dsLaw : He.DefD := ⟨("law", none), "law", "law", defArgs sLaw, defBody sLaw, defScope sLaw, [], []⟩
def fn : List He.DefD := [dsMany, dsAllR, dsNum, dsAtR, dsBag, dsPull, dsOne, dsSame, dsAll, dsTried, dsProd, dsRowsL, dsLaw]
def fa : List He.Fa := [.glo "how_many", .glo "all_rows", .glo "row_number", .glo "row_at", .glo "_law_bag", .glo "_law_pull", .glo "_law_one", .glo "_law_same", .glo "_law_all_tried", .glo "_law_tried", .glo "_law_product", .glo "_law_rows", .glo "law", .glo "BadSetting", .glo "TooMany", .glo "NoThing", .glo "NoLook", .glo "Looked", .glo "BadText", .glo "ShadeError", .glo "Missing", .glo "Crowded", .free "len", .free "list", .free "int", .free "str", .free "bool", .free "tuple", .free "isinstance", .free "all", .free "range", .free "super", .free "zip", .free "reversed", .free "divmod", .int "MOST_SETTINGS" 200]
abbrev sBadSetting : Stmt := inClass (top 2) 0
def dBadSetting : ErrD := ⟨"BadSetting", "BadSetting.__init__", sBadSetting, "no such setting", "/claim/cut.py", "ValueError", "ValueError.__new__", "ValueError.__init__"⟩
abbrev sTooMany : Stmt := inClass (top 9) 0
def dTooMany : ErrD := ⟨"TooMany", "TooMany.__init__", sTooMany, "there are too many", "/claim/cut.py", "RuntimeError", "RuntimeError.__new__", "RuntimeError.__init__"⟩
def wordB (K : PySem.W.Frag) (C cN cL cK cB cS cM cC : Addr) : Bool := decide (PySem.W.exmOne K (.ref C) (.ref cN) = some false) && (decide (PySem.W.exmAny K (.ref C) [.ref cL, .ref cK] = some false) && (decide (PySem.W.exmOne K (.ref C) (.ref cB) = some false) && (decide (PySem.W.exmAny K (.ref C) [.ref cS, .ref cM, .ref cC] = some true) && (xfB K C && He.eqO (PySem.W.findIn K (.ref C) "word") (some none)))))
theorem wordB_ok {K : PySem.W.Frag} {C cN cL cK cB cS cM cC : Addr} (h : wordB K C cN cL cK cB cS cM cC = true) : Word K C cN cL cK cB cS cM cC := by
  obtain ⟨h1, h⟩ := He.ba h
  obtain ⟨h2, h⟩ := He.ba h
  obtain ⟨h3, h⟩ := He.ba h
  obtain ⟨h4, h⟩ := He.ba h
  obtain ⟨h5, h6⟩ := He.ba h
  exact ⟨of_decide_eq_true h1, of_decide_eq_true h2, of_decide_eq_true h3, of_decide_eq_true h4, xfB_ok h5, He.eqO_ok h6⟩
def exB (K : PySem.W.Frag) : Bool := wordB K (He.ga K "BadSetting") (He.ga K "NoThing") (He.ga K "NoLook") (He.ga K "Looked") (He.ga K "BadText") (He.ga K "ShadeError") (He.ga K "Missing") (He.ga K "Crowded") && (wordB K (He.ga K "TooMany") (He.ga K "NoThing") (He.ga K "NoLook") (He.ga K "Looked") (He.ga K "BadText") (He.ga K "ShadeError") (He.ga K "Missing") (He.ga K "Crowded"))
abbrev R : PySem.W.OpenRow := PySem.W.OpenLaw.row PySem.Challenge.rw_hueshade_k23_rows_of_choices
abbrev hk : PySem.W.Hook := hookY 4 fa fn [("law", none)] [dBadSetting, dTooMany] exB
def ob (s : PySem.W.SharedT) : AlY := obsY 4 fa fn [("law", none)] [dBadSetting, dTooMany] exB (HandSHeadRun.getT s)
theorem ob_eq (s : PySem.W.SharedT) : ob s = hk.obs s.abs := obsY_eq (HandSHeadRun.getT_eq s)
abbrev others : List Str := [("__name__" : Str), ("ShadeError" : Str), ("BadSetting" : Str), ("BadText" : Str), ("Missing" : Str), ("NoThing" : Str), ("NoLook" : Str), ("Crowded" : Str), ("Looked" : Str), ("TooMany" : Str), ("MOST_SETTINGS" : Str), ("how_many" : Str), ("all_rows" : Str), ("row_number" : Str), ("row_at" : Str), ("_law_bag" : Str), ("_law_pull" : Str), ("_law_one" : Str), ("_law_same" : Str), ("_law_all_tried" : Str), ("_law_tried" : Str), ("_law_product" : Str), ("_law_rows" : Str)]
theorem run (w : World) : HandSHeadRun.RunEq R (PySem.W.view R.prog [25]) hk ob 5000 others w := by
  intro os
  kernel_rfl
end Hs
namespace Hs
open PySem PySem.Spec PyProof.Rows L2 Evl
/-- the error BadSetting, as it stands -/
theorem BadSetting_ok {P : Program} {w : World} {K : PySem.W.Frag} {mg : Str → Option Value} {base : Heap} (hP : (P.main.file : Str) = "/claim/cut.py") (hPs : (P.main.scope.names.lookup ("super" : Str)).isSome = false) (gs : mg "super" = none) (gx : mg "BadSetting" = some (.ref (He.ga K "BadSetting")))
    (h : errB K dBadSetting = true) (e : fnC K dBadSetting.cls = dBadSetting.val) : ErrF P w K mg base 1 "BadSetting" (He.ga K "BadSetting") "badsetting" := by
  obtain ⟨h1, h⟩ := He.ba h
  obtain ⟨h2, h⟩ := He.ba h
  obtain ⟨h3, h⟩ := He.ba h
  obtain ⟨h4, h⟩ := He.ba h
  obtain ⟨h5, h⟩ := He.ba h
  obtain ⟨h6, h⟩ := He.ba h
  obtain ⟨h7, h⟩ := He.ba h
  obtain ⟨h8, h9⟩ := He.ba h
  obtain ⟨c, cc, fd, I0, hf, hc⟩ := iniB_ok e h2
  have ox := oexB_ok h1
  have T : SupC P K mg (He.ga K "BadSetting") c cc "ValueError" "ValueError.__new__" "ValueError.__init__" (tailOf "ValueError") := ⟨ox, by rw [hP]; exact hf, hc, of_decide_eq_true h3, He.eqO_ok h4, of_decide_eq_true h5, He.eqO_ok h6, gs, hPs⟩
  have G : FnOk P w K mg base CX0 1 (iniA K "BadSetting") fd ["self", "why"] (spErr (He.ga K "BadSetting") "badsetting") := err_ok (st := sBadSetting) basV T I0 (He.eqO_ok h9) rfl
    (NdefX.nscope_by (by decide +kernel)) rfl rfl rfl rfl rfl (fun _ => rfl) (fun _ => rfl) (fun _ => rfl) (fun _ => rfl) (fun _ => rfl)
  obtain ⟨oc, od, dV, kV, doc, pm, an, ct, osl, rfl, lk, hcd, hD⟩ := I0
  rcases hD with ⟨z, _⟩ | ⟨_, Ta, o, its, m, rfl, lT, oT, rT⟩
  · cases z
  · have hits : ∃ d, its = [d] := by
      have l := rT.length
      match its, l with
      | [d], _ => exact ⟨d, rfl⟩
    obtain ⟨d, rfl⟩ := hits
    have rd : RelV (.str "no such setting") d := match rT with
      | .cons r _ => r
    refine ⟨⟨_, _, _, _, basV, ox⟩, gx, _, _, _, _, d, He.eqO_ok h7, of_decide_eq_true h8, G, rd, fun s us X hlen => ?_⟩
    have hl1 : us.length = 1 := by
      rw [List.length_append] at hlen
      exact Nat.succ.inj hlen
    match us, hl1 with
    | [u], _ =>
      refine BindsTo.of_looks fun M => ?_
      exact looks_items X lT oT (.of_pure rfl)
/-- the error TooMany, as it stands -/
theorem TooMany_ok {P : Program} {w : World} {K : PySem.W.Frag} {mg : Str → Option Value} {base : Heap} (hP : (P.main.file : Str) = "/claim/cut.py") (hPs : (P.main.scope.names.lookup ("super" : Str)).isSome = false) (gs : mg "super" = none) (gx : mg "TooMany" = some (.ref (He.ga K "TooMany")))
    (h : errB K dTooMany = true) (e : fnC K dTooMany.cls = dTooMany.val) : ErrF P w K mg base 1 "TooMany" (He.ga K "TooMany") "toomany" := by
  obtain ⟨h1, h⟩ := He.ba h
  obtain ⟨h2, h⟩ := He.ba h
  obtain ⟨h3, h⟩ := He.ba h
  obtain ⟨h4, h⟩ := He.ba h
  obtain ⟨h5, h⟩ := He.ba h
  obtain ⟨h6, h⟩ := He.ba h
  obtain ⟨h7, h⟩ := He.ba h
  obtain ⟨h8, h9⟩ := He.ba h
  obtain ⟨c, cc, fd, I0, hf, hc⟩ := iniB_ok e h2
  have ox := oexB_ok h1
  have T : SupC P K mg (He.ga K "TooMany") c cc "RuntimeError" "RuntimeError.__new__" "RuntimeError.__init__" (tailOf "RuntimeError") := ⟨ox, by rw [hP]; exact hf, hc, of_decide_eq_true h3, He.eqO_ok h4, of_decide_eq_true h5, He.eqO_ok h6, gs, hPs⟩
  have G : FnOk P w K mg base CX0 1 (iniA K "TooMany") fd ["self", "why"] (spErr (He.ga K "TooMany") "toomany") := err_ok (st := sTooMany) basR T I0 (He.eqO_ok h9) rfl
    (NdefX.nscope_by (by decide +kernel)) rfl rfl rfl rfl rfl (fun _ => rfl) (fun _ => rfl) (fun _ => rfl) (fun _ => rfl) (fun _ => rfl)
  obtain ⟨oc, od, dV, kV, doc, pm, an, ct, osl, rfl, lk, hcd, hD⟩ := I0
  rcases hD with ⟨z, _⟩ | ⟨_, Ta, o, its, m, rfl, lT, oT, rT⟩
  · cases z
  · have hits : ∃ d, its = [d] := by
      have l := rT.length
      match its, l with
      | [d], _ => exact ⟨d, rfl⟩
    obtain ⟨d, rfl⟩ := hits
    have rd : RelV (.str "there are too many") d := match rT with
      | .cons r _ => r
    refine ⟨⟨_, _, _, _, basR, ox⟩, gx, _, _, _, _, d, He.eqO_ok h7, of_decide_eq_true h8, G, rd, fun s us X hlen => ?_⟩
    have hl1 : us.length = 1 := by
      rw [List.length_append] at hlen
      exact Nat.succ.inj hlen
    match us, hl1 with
    | [u], _ =>
      refine BindsTo.of_looks fun M => ?_
      exact looks_items X lT oT (.of_pure rfl)
theorem facts {P : Program} {w : World} {K : PySem.W.Frag} {h : Heap} {mg : Str → Option Value} {f : Addr} (hP : (P.main.file : Str) = "/claim/cut.py") (hPs : (P.main.scope.names.lookup ("super" : Str)).isSome = false) (X : K.In h) (G : h.Ns mainGlobals mg) (hfa : mg ("law" : Str) = some (.ref f)) (c : SaysY fa fn [("law", none)] [dBadSetting, dTooMany] exB w h K) :
    ∃ (fd : FuncData) (cc pt : Addr), h.get? pt = some { cls := .none, data := .fields #[] } ∧ K.lookup pt = none ∧ PySem.W.CodeHd h cc pt ∧ (∀ (s : Shared) (v : Value), BindsTo s fd ⟨[v], []⟩ [("_law_script", v)]) ∧
      ∀ base : Heap, LamX.TabB base mg cc pt → FnOk P w K mg base CX0 7 f fd ["_law_script"] (spLaw K [(pt, lamQ)]) := by
  have cd := c.x.t.d
  obtain ⟨fd_how_many, F_how_many⟩ : ∃ fd, FnP K "how_many" sMany (He.ga K "how_many") fd := cd.def_ 0 (d := dsMany) rfl
  have m_how_many := He.glo_ok X G (cd.fact 0 (f := .glo "how_many") rfl)
  obtain ⟨fd_all_rows, F_all_rows⟩ : ∃ fd, FunD K "all_rows" "all_rows" (defArgs sAllR) (defBody sAllR) (defScope sAllR) [] [("most", .int 200)] (He.ga K "all_rows") fd := cd.def_ 1 (d := dsAllR) rfl
  have m_all_rows := He.glo_ok X G (cd.fact 1 (f := .glo "all_rows") rfl)
  obtain ⟨fd_row_number, F_row_number⟩ : ∃ fd, FnP K "row_number" sNum (He.ga K "row_number") fd := cd.def_ 2 (d := dsNum) rfl
  have m_row_number := He.glo_ok X G (cd.fact 2 (f := .glo "row_number") rfl)
  obtain ⟨fd_row_at, F_row_at⟩ : ∃ fd, FnP K "row_at" sAtR (He.ga K "row_at") fd := cd.def_ 3 (d := dsAtR) rfl
  have m_row_at := He.glo_ok X G (cd.fact 3 (f := .glo "row_at") rfl)
  obtain ⟨fd__law_bag, F__law_bag⟩ : ∃ fd, FnP K "_law_bag" sBag (He.ga K "_law_bag") fd := cd.def_ 4 (d := dsBag) rfl
  have m__law_bag := He.glo_ok X G (cd.fact 4 (f := .glo "_law_bag") rfl)
  obtain ⟨fd__law_pull, F__law_pull⟩ : ∃ fd, FnP K "_law_pull" sPull (He.ga K "_law_pull") fd := cd.def_ 5 (d := dsPull) rfl
  have m__law_pull := He.glo_ok X G (cd.fact 5 (f := .glo "_law_pull") rfl)
  obtain ⟨fd__law_one, F__law_one⟩ : ∃ fd, FnP K "_law_one" sOne (He.ga K "_law_one") fd := cd.def_ 6 (d := dsOne) rfl
  have m__law_one := He.glo_ok X G (cd.fact 6 (f := .glo "_law_one") rfl)
  obtain ⟨fd__law_same, F__law_same⟩ : ∃ fd, FnP K "_law_same" sSame (He.ga K "_law_same") fd := cd.def_ 7 (d := dsSame) rfl
  have m__law_same := He.glo_ok X G (cd.fact 7 (f := .glo "_law_same") rfl)
  obtain ⟨fd__law_all_tried, F__law_all_tried⟩ : ∃ fd, FnP K "_law_all_tried" sAll (He.ga K "_law_all_tried") fd := cd.def_ 8 (d := dsAll) rfl
  have m__law_all_tried := He.glo_ok X G (cd.fact 8 (f := .glo "_law_all_tried") rfl)
  obtain ⟨fd__law_tried, F__law_tried⟩ : ∃ fd, FnP K "_law_tried" sTried (He.ga K "_law_tried") fd := cd.def_ 9 (d := dsTried) rfl
  have m__law_tried := He.glo_ok X G (cd.fact 9 (f := .glo "_law_tried") rfl)
  obtain ⟨fd__law_product, F__law_product⟩ : ∃ fd, FnP K "_law_product" sProd (He.ga K "_law_product") fd := cd.def_ 10 (d := dsProd) rfl
  have m__law_product := He.glo_ok X G (cd.fact 10 (f := .glo "_law_product") rfl)
  obtain ⟨fd__law_rows, F__law_rows⟩ : ∃ fd, FnP K "_law_rows" sRowsL (He.ga K "_law_rows") fd := cd.def_ 11 (d := dsRowsL) rfl
  have m__law_rows := He.glo_ok X G (cd.fact 11 (f := .glo "_law_rows") rfl)
  obtain ⟨fd_law, F_law⟩ : ∃ fd, FnP K "law" sLaw (He.ga K "law") fd := cd.def_ 12 (d := dsLaw) rfl
  have m_law := He.glo_ok X G (cd.fact 12 (f := .glo "law") rfl)
  have m_BadSetting := He.glo_ok X G (cd.fact 13 (f := .glo "BadSetting") rfl)
  have m_TooMany := He.glo_ok X G (cd.fact 14 (f := .glo "TooMany") rfl)
  have m_NoThing := He.glo_ok X G (cd.fact 15 (f := .glo "NoThing") rfl)
  have m_NoLook := He.glo_ok X G (cd.fact 16 (f := .glo "NoLook") rfl)
  have m_Looked := He.glo_ok X G (cd.fact 17 (f := .glo "Looked") rfl)
  have m_BadText := He.glo_ok X G (cd.fact 18 (f := .glo "BadText") rfl)
  have m_ShadeError := He.glo_ok X G (cd.fact 19 (f := .glo "ShadeError") rfl)
  have m_Missing := He.glo_ok X G (cd.fact 20 (f := .glo "Missing") rfl)
  have m_Crowded := He.glo_ok X G (cd.fact 21 (f := .glo "Crowded") rfl)
  have g_len := He.free_ok X G (cd.fact 22 (f := .free "len") rfl)
  have g_list := He.free_ok X G (cd.fact 23 (f := .free "list") rfl)
  have g_int := He.free_ok X G (cd.fact 24 (f := .free "int") rfl)
  have g_str := He.free_ok X G (cd.fact 25 (f := .free "str") rfl)
  have g_bool := He.free_ok X G (cd.fact 26 (f := .free "bool") rfl)
  have g_tuple := He.free_ok X G (cd.fact 27 (f := .free "tuple") rfl)
  have g_isinstance := He.free_ok X G (cd.fact 28 (f := .free "isinstance") rfl)
  have g_all := He.free_ok X G (cd.fact 29 (f := .free "all") rfl)
  have g_range := He.free_ok X G (cd.fact 30 (f := .free "range") rfl)
  have g_super := He.free_ok X G (cd.fact 31 (f := .free "super") rfl)
  have g_zip := He.free_ok X G (cd.fact 32 (f := .free "zip") rfl)
  have g_reversed := He.free_ok X G (cd.fact 33 (f := .free "reversed") rfl)
  have g_divmod := He.free_ok X G (cd.fact 34 (f := .free "divmod") rfl)
  obtain ⟨t_MOST_SETTINGS, m_MOST_SETTINGS⟩ := He.int_ok X G (cd.fact 35 (f := .int "MOST_SETTINGS" 200) rfl)
  have ef : f = He.ga K "law" := by
    have e := hfa.symm.trans m_law
    cases e
    rfl
  subst ef
  have x0 : (wordB K (He.ga K "BadSetting") (He.ga K "NoThing") (He.ga K "NoLook") (He.ga K "Looked") (He.ga K "BadText") (He.ga K "ShadeError") (He.ga K "Missing") (He.ga K "Crowded") && (wordB K (He.ga K "TooMany") (He.ga K "NoThing") (He.ga K "NoLook") (He.ga K "Looked") (He.ga K "BadText") (He.ga K "ShadeError") (He.ga K "Missing") (He.ga K "Crowded"))) = true := c.x.more
  obtain ⟨xw0, x0⟩ := He.ba x0
  have w_BadSetting := wordB_ok xw0
  have xw1 := x0
  have w_TooMany := wordB_ok xw1
  have ct : Cats mg (He.ga K "NoThing") (He.ga K "NoLook") (He.ga K "Looked") (He.ga K "BadText") (He.ga K "ShadeError") (He.ga K "Missing") (He.ga K "Crowded") := ⟨m_NoThing, m_NoLook, m_Looked, m_BadText, m_ShadeError, m_Missing, m_Crowded⟩
  obtain ⟨erB_BadSetting, erV_BadSetting⟩ := c.er dBadSetting (by simp)
  have Er_BadSetting : ∀ base : Heap, ErrF P w K mg base 1 "BadSetting" (He.ga K "BadSetting") "badsetting" := fun base => BadSetting_ok hP hPs g_super m_BadSetting erB_BadSetting erV_BadSetting
  obtain ⟨erB_TooMany, erV_TooMany⟩ := c.er dTooMany (by simp)
  have Er_TooMany : ∀ base : Heap, ErrF P w K mg base 1 "TooMany" (He.ga K "TooMany") "toomany" := fun base => TooMany_ok hP hPs g_super m_TooMany erB_TooMany erV_TooMany
  have hb := FunD.bindsA (ps := ["_law_script"]) F_law (fun _ _ _ _ _ _ us hl => match us, hl with | [_], _ => rfl)
  obtain ⟨oc, od, dV, kV, doc, pm, an, cdv, ctt, osl, rfl, lk, hcd, _, _⟩ := F_law.ex
  obtain ⟨cc, rfl⟩ := He.codeIn_ref hcd
  have ecc : He.codeOf K ("law", none) = cc := He.codeOf_eq (p := ("law", none)) lk rfl
  refine ⟨_, cc, He.tabOf K cc, ?_, ?_, ?_, fun s v => hb s [v] rfl, fun base TB => ?_⟩
  · have z := c.x.empty ("law", none) (List.mem_singleton.mpr rfl)
    rw [← ecc]
    exact z
  · have z := c.x.out ("law", none) (List.mem_singleton.mpr rfl)
    rw [← ecc]
    exact z
  · have z := c.x.hd ("law", none) (List.mem_singleton.mpr rfl)
    rw [← ecc]
    exact PySem.W.codeHd_of_K X z
  · have OH : ∀ base : Heap, Own P w K mg base 1 "how_many" ["counts"] (spMany K) := fun base => own_of F_how_many m_how_many (ok_many F_how_many) (fun _ _ _ _ _ _ us hl => match us, hl with | [_], _ => rfl)
    have FA : ∀ base : Heap, FnOk P w K mg base (L2.CX P w) 3 (He.ga K "all_rows") fd_all_rows ["counts", "most"] (spAllR K (He.ga K "TooMany")) := fun base => ok_allR F_all_rows (OH base) (Er_TooMany base) g_range
    have bA := FunD.binds0 (ps := ["counts", "most"]) F_all_rows 1 (by simp) rfl fun D doc pm an cdv ct us ks l1 l2 => match us, ks, l1, l2 with
      | [_], [_], _, _ => ⟨_, _, _, _, _, _, rfl, rfl, rfl⟩
    obtain ⟨dsA, vA, bA⟩ := bA
    have OA : ∀ base : Heap, OwnX P w K mg base 3 "all_rows" ["counts", "most"] [.int 200] (spAllR K (He.ga K "TooMany")) := fun base => ⟨_, _, dsA, FA base, m_all_rows, F_all_rows.kp, vA, bA⟩
    have kA : KBn K fd_all_rows ["counts", "most"] 1 ["most"] (fun us ws => us ++ ws) (fun vs zs => vs ++ zs) := by
      obtain ⟨oc, od, dV, kV, doc, pm, an, cdv, ct, osl, rfl, lk, hcd, hD, hK⟩ := F_all_rows.ex
      rcases hD with ⟨_, rfl⟩ | ⟨e, _⟩
      · refine ⟨fun s us ws X l1 l2 => ?_, fun r1 r2 => r1.append r2⟩
        match us, ws, l1, l2 with
        | [_], [_], _, _ => exact .of_eq rfl
      · exact absurd rfl e
    have ON : ∀ base : Heap, OwnN P w K mg base 3 "all_rows" ["counts", "most"] 1 ["most"] (spAllR K (He.ga K "TooMany")) := fun base => ⟨_, _, FA base, m_all_rows, F_all_rows.kp, kA⟩
    have OT : ∀ base : Heap, OwnX P w K mg base 3 "row_at" ["counts", "number"] [] (spAtR K (He.ga K "BadSetting")) := fun base => ⟨_, _, [], ok_atR F_row_at (OH base) (Er_BadSetting base) g_reversed g_divmod g_tuple, m_row_at, F_row_at.kp, .nil, F_row_at.bindsN (fun _ _ _ _ _ _ us hl => match us, hl with | [_, _], _ => rfl)⟩
    have OU : ∀ base : Heap, OwnX P w K mg base 3 "row_number" ["counts", "row"] [] (spNum K (He.ga K "BadSetting")) := fun base => ⟨_, _, [], ok_num F_row_number (Er_BadSetting base) g_zip g_len, m_row_number, F_row_number.kp, .nil, F_row_number.bindsN (fun _ _ _ _ _ _ us hl => match us, hl with | [_, _], _ => rfl)⟩
    have OR : ∀ base : Heap, Own P w K mg base 5 "_law_tried" ["_law_act"] (spTried P w K mg base 4 lamQ (He.ga K "NoThing") (He.ga K "NoLook") (He.ga K "Looked") (He.ga K "BadText") (He.ga K "ShadeError") (He.ga K "Missing") (He.ga K "Crowded")) := fun base => own_of F__law_tried m__law_tried (ok_tried (k := 4) (q := lamQ) F__law_tried ct) (fun _ _ _ _ _ _ us hl => match us, hl with | [_], _ => rfl)
    have OL : ∀ base : Heap, Own P w K mg base 6 "_law_all_tried" ["_law_acts"] (spAll P w K mg base 4 lamQ (He.ga K "NoThing") (He.ga K "NoLook") (He.ga K "Looked") (He.ga K "BadText") (He.ga K "ShadeError") (He.ga K "Missing") (He.ga K "Crowded")) := fun base => own_of F__law_all_tried m__law_all_tried (ok_all F__law_all_tried (OR base)) (fun _ _ _ _ _ _ us hl => match us, hl with | [_], _ => rfl)
    have O__law_pull := own_of F__law_pull m__law_pull (ok_pull (P := P) (w := w) (base := base) F__law_pull g_len) (fun _ _ _ _ _ _ us hl => match us, hl with | [_, _], _ => rfl)
    have O__law_bag := own_of F__law_bag m__law_bag (ok_bag (P := P) (w := w) (base := base) F__law_bag g_len g_list) (fun _ _ _ _ _ _ us hl => match us, hl with | [_], _ => rfl)
    have O__law_one := own_of F__law_one m__law_one (ok_one F__law_one O__law_pull g_len) (fun _ _ _ _ _ _ us hl => match us, hl with | [_, _], _ => rfl)
    have O__law_same := own_of F__law_same m__law_same (ok_same (P := P) (w := w) (base := base) F__law_same m__law_same g_len g_isinstance g_bool g_int g_str g_list g_tuple g_all g_range 4) (fun _ _ _ _ _ _ us hl => match us, hl with | [_, _], _ => rfl)
    have O__law_product := own_of F__law_product m__law_product (ok_prod (P := P) (w := w) (base := base) F__law_product) (fun _ _ _ _ _ _ us hl => match us, hl with | [_], _ => rfl)
    have O__law_rows := own_of F__law_rows m__law_rows (ok_rowsL (P := P) (w := w) (base := base) F__law_rows g_range) (fun _ _ _ _ _ _ us hl => match us, hl with | [_], _ => rfl)
    refine L2.fn_of lk hcd scLaw (fun vs H Q E h => ?_) (fun A outer s H vs Q E hr h => law_body hr O__law_bag O__law_pull O__law_one O__law_same O__law_product O__law_rows (OH base) (fun base' _ => OA base') (fun base' _ => ON base') (fun base' _ => OT base') (fun base' _ => OU base') (fun base' _ => OR base') (fun base' _ => OL base') TB g_range g_tuple g_list ⟨_, m_MOST_SETTINGS, ⟨t_MOST_SETTINGS, rfl⟩⟩ w_TooMany w_BadSetting h)
    obtain ⟨a, ns, rfl, _⟩ := h
    rfl
end Hs
open PySem PySem.W PySem.Calls PyProof.Rows
theorem PySem.Challenge.cw_hueshade_k23_rows_of_choices_holds : PySem.Challenge.rw_hueshade_k23_rows_of_choices.Holds := by
  w_on; o_law
  refine HandSHeadRun.head_any (r := OpenLaw.row PySem.Challenge.rw_hueshade_k23_rows_of_choices) (q := view (OpenLaw.row PySem.Challenge.rw_hueshade_k23_rows_of_choices).prog [25]) (H := Hs.hk) (ob := Hs.ob) (M := 5000) (loose := Hs.others) (d := HandSHeadRun.topDef (OpenLaw.row PySem.Challenge.rw_hueshade_k23_rows_of_choices).prog 25) (kwd := []) Hs.ob_eq
    (by kernel_rfl) (fun s => by kernel_rfl) Hs.run (by kernel_rfl) (by kernel_rfl) (by kernel_rfl) (by rfl) (by first | assumption | decide +kernel) (by decide +kernel) ⟨rfl, rfl, rfl, rfl, rfl, by decide +kernel⟩ ?hw ?hc
  case hw => w_witness2
  case hc =>
    refine LamX.walk_ofTsE (l := PySem.Challenge.rw_hueshade_k23_rows_of_choices) (n := 63) (k := 7) (x := "_law_script") (CX := fun _ => L2.CX0) rfl (by decide) (by kernel_rfl) ⟨rfl, by decide, by decide⟩ ?F (fun _ _ _ _ _ z => z)
    intro w mg fa h Y G hmg0
    obtain ⟨K, KX, c⟩ := Y
    have hmg : mg ("law" : PySem.Str) = some (.ref fa) := by
      have e : (HandSHeadRun.topDef (OpenLaw.row PySem.Challenge.rw_hueshade_k23_rows_of_choices).prog 25).name = ("law" : PySem.Str) := by kernel_rfl
      rw [← e]
      exact hmg0
    obtain ⟨fd, cc, pt, h1, h2, h3, hb, hF⟩ := Hs.facts (P := (PySem.Challenge.rw_hueshade_k23_rows_of_choices).prog) (w := w) (by kernel_rfl) (by kernel_rfl) KX G hmg c
    refine ⟨K, KX, fd, [(cc, pt)], Hs.spLaw K [(pt, Hs.lamQ)], fun p hp => ?_, fun p hp => ?_, fun p hp => ?_, hb, fun H a ns hl _ hT hS => ⟨a, ns, rfl, hS, hl, fun p hp => ?_, fun _ => rfl⟩, fun base _ _ hB => hF base (hB (cc, pt) (List.mem_singleton.mpr rfl))⟩
    · rw [List.mem_singleton.mp hp]
      exact h1
    · rw [List.mem_singleton.mp hp]
      exact h2
    · rw [List.mem_singleton.mp hp]
      exact h3
    · rw [List.mem_singleton.mp hp]
      exact LamX.TabS.nil (hT (cc, pt) (List.mem_singleton.mpr rfl))
