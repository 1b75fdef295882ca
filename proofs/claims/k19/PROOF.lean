import PyProof.Rows.All
import Wide.All
import OpenK.AllK
import Wide.FinOn
import HandS.ForMost
import HandS.ForExc
import HandS.Wide
import HandS.IsInst
import HandS.Lambda
import HandS.Defaults
import HandS.Evl
import HandS.Codes
import HandS.Style
import HandS.More
import HandS.FStr
import HandS.TryMany
import HandS.ExcField
import HandS.NoneIn
import HandS.ExcInit
import HandS.ExcSuper
import KE.KExcSuper
import KE.DatumOrd
import HandS.Zip
import HandS.Walk
import HandS.Star
import HandS.Flow
import HandS.Nested
import HandS.Head0
import HandS.Head1
import HandS.Head2
import HandS.HeadEnd
import HandS.HeadHook1
import HandS.HeadHook2
import HandS.HeadHook3
import HandS.HeadHook4
import HandS.HeadWalk
import PySem.Challenge.RW_hueshade_k19_shades_of_pieces
set_option Elab.async false
set_option linter.all false
set_option maxRecDepth 100000
set_option maxHeartbeats 0
namespace Hs
/-! ### fractions in lowest terms -/
/-- the common part, with the sign of the bottom -/
def sg (a b : Int) : Int := if b < 0 then -(Int.gcd a b : Int) else (Int.gcd a b : Int)
def low (a b : Int) : Int × Int := (a.fdiv (sg a b), b.fdiv (sg a b))
theorem gcd_pos {a b : Int} (h : b ≠ 0) : 0 < Int.gcd a b := Int.gcd_pos_of_ne_zero_right a h
theorem sg_ne {a b : Int} (h : b ≠ 0) : sg a b ≠ 0 := by
  have := gcd_pos (a := a) h
  unfold sg
  split <;> omega
theorem sg_abs {a b : Int} : (sg a b).natAbs = Int.gcd a b := by
  unfold sg
  split <;> omega
theorem sg_dvd_left (a b : Int) : sg a b ∣ a := by
  unfold sg
  split
  · exact Int.neg_dvd.mpr (Int.gcd_dvd_left ..)
  · exact Int.gcd_dvd_left ..
theorem sg_dvd_right (a b : Int) : sg a b ∣ b := by
  unfold sg
  split
  · exact Int.neg_dvd.mpr (Int.gcd_dvd_right ..)
  · exact Int.gcd_dvd_right ..
theorem low_1 (a b : Int) : a = sg a b * (low a b).1 := by
  have h := sg_dvd_left a b
  show a = sg a b * a.fdiv (sg a b)
  rw [Int.fdiv_eq_ediv_of_dvd h, Int.mul_ediv_cancel' h]
theorem low_2 (a b : Int) : b = sg a b * (low a b).2 := by
  have h := sg_dvd_right a b
  show b = sg a b * b.fdiv (sg a b)
  rw [Int.fdiv_eq_ediv_of_dvd h, Int.mul_ediv_cancel' h]
theorem low_of {a b g x y : Int} (h : b ≠ 0) (hg : sg a b = g) (ha : a = g * x) (hb : b = g * y) : low a b = (x, y) := by
  have h1 := low_1 a b
  have h2 := low_2 a b
  have hn : g ≠ 0 := by
    rw [← hg]
    exact sg_ne h
  rw [hg] at h1 h2
  have e1 : (low a b).1 = x := Int.eq_of_mul_eq_mul_left hn (h1.symm.trans ha)
  have e2 : (low a b).2 = y := Int.eq_of_mul_eq_mul_left hn (h2.symm.trans hb)
  rw [← e1, ← e2]
theorem low_pos {a b : Int} (h : b ≠ 0) : 0 < (low a b).2 := by
  have h2 := low_2 a b
  have hp := gcd_pos (a := a) h
  by_cases hb : b < 0
  · have e : sg a b = -(Int.gcd a b : Int) := if_pos hb
    rw [e] at h2
    apply Decidable.byContradiction
    intro hn
    have : 0 ≤ -(Int.gcd a b : Int) * (low a b).2 := by
      have := Int.mul_nonneg_of_nonpos_of_nonpos (a := -(Int.gcd a b : Int)) (b := (low a b).2) (by omega) (by omega)
      exact this
    omega
  · have e : sg a b = (Int.gcd a b : Int) := if_neg hb
    rw [e] at h2
    apply Decidable.byContradiction
    intro hn
    have : (Int.gcd a b : Int) * (low a b).2 ≤ 0 := Int.mul_nonpos_of_nonneg_of_nonpos (by omega) (by omega)
    omega
theorem low_b1 {a b : Int} (h : b ≠ 0) : (low a b).1.natAbs ≤ a.natAbs := by
  have h1 := congrArg Int.natAbs (low_1 a b)
  rw [Int.natAbs_mul, sg_abs] at h1
  rw [h1]
  exact Nat.le_mul_of_pos_left _ (gcd_pos h)
theorem low_b2 {a b : Int} (h : b ≠ 0) : (low a b).2.natAbs ≤ b.natAbs := by
  have h1 := congrArg Int.natAbs (low_2 a b)
  rw [Int.natAbs_mul, sg_abs] at h1
  have h2 := Nat.le_mul_of_pos_left (low a b).2.natAbs (gcd_pos (a := a) h)
  omega
theorem sg_mul {k a b : Int} (hk : k ≠ 0) (h : b ≠ 0) : sg (k * a) (k * b) = k * sg a b := by
  unfold sg
  rw [Int.gcd_mul_left, Int.natCast_mul]
  by_cases h1 : 0 < k
  · have e : (k.natAbs : Int) = k := by omega
    rw [e]
    by_cases h2 : b < 0
    · have : k * b < 0 := Int.mul_neg_of_pos_of_neg h1 h2
      rw [if_pos this, if_pos h2, Int.mul_neg]
    · have : 0 ≤ k * b := Int.mul_nonneg (by omega) (by omega)
      rw [if_neg (by omega), if_neg h2]
  · have e : (k.natAbs : Int) = -k := by omega
    rw [e]
    by_cases h2 : b < 0
    · have : 0 ≤ k * b := Int.mul_nonneg_of_nonpos_of_nonpos (by omega) (by omega)
      rw [if_neg (by omega), if_pos h2, Int.mul_neg, Int.neg_mul]
    · have : k * b < 0 := Int.mul_neg_of_neg_of_pos (by omega) (by omega)
      rw [if_pos this, if_neg h2, Int.neg_mul, Int.neg_neg]
theorem low_scale {k a b : Int} (hk : k ≠ 0) (h : b ≠ 0) : low (k * a) (k * b) = low a b := by
  have hkb : k * b ≠ 0 := Int.mul_ne_zero hk h
  refine low_of hkb (sg_mul hk h) ?_ ?_
  · rw [Int.mul_assoc]
    exact congrArg (k * ·) (low_1 a b)
  · rw [Int.mul_assoc]
    exact congrArg (k * ·) (low_2 a b)
theorem low_one (a : Int) : low a 1 = (a, 1) := by
  have e : sg a 1 = 1 := by
    unfold sg
    rw [if_neg (by decide), Int.gcd_one_right] <;> rfl
  exact low_of (by decide) e (by omega) (by omega)
/-- the middle: the half of a sum in lowest terms -/
theorem low_half {x y : Int} (h : y ≠ 0) : low ((low x y).1 * 1) ((low x y).2 * 2) = low x (2 * y) := by
  have h1 := low_1 x y
  have h2 := low_2 x y
  have hp := low_pos (a := x) h
  have e : low x (2 * y) = low (sg x y * ((low x y).1 * 1)) (sg x y * ((low x y).2 * 2)) := by
    congr 1
    · rw [Int.mul_one]
      exact h1
    · rw [← Int.mul_assoc, ← h2, Int.mul_comm]
  rw [e]
  exact (low_scale (sg_ne h) (by omega)).symm
end Hs
namespace Hs
open PySem PySem.Spec PyProof.Rows L2 Evl
/-! ### own words -/
/-- // by any divisor but nought, below 2 ^ 9000 -/
def CDivG (i j : Int) : Prop := j ≠ 0 ∧ (j.natAbs.log2 < 9000 ∨ i.natAbs.log2 < 13400)
theorem noPylong_x {x y : Int} (h : x.natAbs.log2 < 13400) : Builtin.divisionGoesByPylong x y = false := by
  have key : (if x == 0 then 0 else x.natAbs.log2 / 30 + 1) ≤ 450 := by
    by_cases hx : (x == 0) = true
    · rw [if_pos hx]
      exact Nat.zero_le _
    · rw [if_neg hx]
      omega
  show (decide ((if y == 0 then 0 else y.natAbs.log2 / 30 + 1) > 300) && decide ((if x == 0 then 0 else x.natAbs.log2 / 30 + 1) > (if y == 0 then 0 else y.natAbs.log2 / 30 + 1) + 150)) = false
  generalize (if y == 0 then 0 else y.natAbs.log2 / 30 + 1) = b
  generalize (if x == 0 then 0 else x.natAbs.log2 / 30 + 1) = a at key
  by_cases hb : b > 300
  · rw [decide_eq_false (show ¬ a > b + 150 by omega), Bool.and_false]
  · rw [decide_eq_false hb, Bool.false_and]
theorem op_fdivG {X : Cx} : OpR X (binaryOp .FloorDiv) (rI CDivG fun i j => .int (i.fdiv j)) := opI fun i j _ _ _ _ _ hc q => floordiv_int hc.1 q (.inl (hc.2.elim PyProof.noPylong_of_log2 noPylong_x))
theorem divG {i j : Int} {b : Nat} (h : j ≠ 0) (hb : j.natAbs < 2 ^ b) (h0 : 0 < b) (h9 : b ≤ 9000) : CDivG i j := ⟨h, .inl (Nat.lt_of_lt_of_le (PySem.Flt.log2_lt_of h0 hb) h9)⟩
theorem divX {i j : Int} {b : Nat} (h : j ≠ 0) (hb : i.natAbs < 2 ^ b) (h0 : 0 < b) (h9 : b ≤ 13400) : CDivG i j := ⟨h, .inr (Nat.lt_of_lt_of_le (PySem.Flt.log2_lt_of h0 hb) h9)⟩
theorem mul64 {i j : Int} (ha : i.natAbs < 2 ^ 64) (hb : j.natAbs < 2 ^ 64) : CMulW i j := wide_mul ha hb (by decide) (by decide) (by decide)
theorem modP {i j : Int} (h : 0 < j) : 0 ≤ i.fmod j ∧ i.fmod j < j := by
  rw [Int.fmod_eq_emod_of_nonneg i (Int.le_of_lt h)]
  exact ⟨Int.emod_nonneg i (by omega), Int.emod_lt_of_pos i h⟩
/-- an own def by its promise -/
structure Own (P : Program) (w : World) (K : PySem.W.Frag) (mg : Str → Option Value) (base : Heap) (k : Nat) (x : Str) (ps : List Str) (sp : Sp) : Prop where
  ex : ∃ (f : Addr) (fd : FuncData), FnOk P w K mg base CX0 k f fd ps sp ∧ mg x = some (.ref f) ∧ PySem.W.keepIn K (.ref f) = true ∧ Binds K fd ps []
theorem pe_own {X : Cx} {k j : Nat} {x : Str} {ps : List Str} {sp : Sp} {e : Expr} {es : List Expr} {t : TA} {p pos : Pos} (O : Own X.prog X.w X.K X.mg X.base k x ps sp) (hr : Room j X.A) (hk : k ≤ j) (hg : Gl X x) (ha : PA X (e :: es) t)
    (hdb : (x == ("__debug__" : Str)) = false := by decide) (he : starEach (e :: es) X.env = (false, eval e X.env) :: starEach es X.env := by rfl) (hpl : (backTo pos (starEach es X.env)).any (·.1) = false := by rfl) :
    PE X (.Call (.Name x p) (e :: es) [] pos) (tCall sp [] E0 t) := by
  obtain ⟨f, fd, F, m, kp, b⟩ := O.ex
  exact pe_call F (hr.mono hk) hg m kp b .nil pass0 ha hdb he hpl
abbrev FnP (K : PySem.W.Frag) (x : Str) (st : Stmt) (f : Addr) (fd : FuncData) : Prop := FunD K x x (defArgs st) (defBody st) (defScope st) [] [] f fd
theorem own_of {P : Program} {w : World} {K : PySem.W.Frag} {mg : Str → Option Value} {base : Heap} {k : Nat} {x : Str} {ps : List Str} {sp : Sp} {st : Stmt} {f : Addr} {fd : FuncData} (F : FnP K x st f fd) (m : mg x = some (.ref f)) (G : FnOk P w K mg base CX0 k f fd ps sp)
    (h : ∀ (kV doc pm : Value) (an : Option Addr) (cdv ct : Value) (us : List Value), us.length = ps.length → bindArgs (PySem.W.fnOf x x (defArgs st) (defBody st) (defScope st) .none kV doc pm an cdv ct) ⟨us, []⟩ = pure (ps.zip us)) : Own P w K mg base k x ps sp :=
  ⟨f, fd, G, m, F.kp, F.bindsN h⟩
theorem ev_ix {K : PySem.W.Frag} {σ : L2.St} {H : Hp} {b : Addr} {xs : List V} {i : Int} {v : V} {j : Nat} (hs : σ[j]? = some (some (.ref b))) (hb : H b = some (.lst xs)) (ha : atI xs i = some v) : Ev (tOp (rIxL K) (tVar j) (tC (.int i))) σ H v :=
  ev_op (ev_var hs) ev_c (rv_ixL (sq_of hb) ha)
theorem ev_ixt {K : PySem.W.Frag} {σ : L2.St} {H : Hp} {b : Addr} {xs : List V} {i : Int} {v : V} {j : Nat} (hs : σ[j]? = some (some (.ref b))) (hb : SqT K H b xs) (ha : atI xs i = some v) : Ev (tOp (rIxT K) (tVar j) (tC (.int i))) σ H v :=
  ev_op (ev_var hs) ev_c (rv_ixT hb ha)
theorem ite_T {c : Bool} {A B : Prop} (hc : c = true) (h : A) : if c = true then A else B := by
  rw [if_pos hc]
  exact h
theorem ite_F {c : Bool} {A B : Prop} (hc : c = false) (h : B) : if c = true then A else B := by
  rw [hc, if_neg Bool.false_ne_true]
  exact h
/-! ### the bag that draws -/
structure BagAt (H : Hp) (b l : Addr) (ns : List Int) (n : Nat) : Prop where
  ex : ∃ (i : Nat) (z s : Int) (c : Nat), H b = some (.lst [.ref l, .int i, .int z, .int s, .int c]) ∧ i ≤ ns.length ∧ 0 ≤ s ∧ s < 2147483647 ∧ c ≤ n
  ls : H l = some (.lst (ns.map V.int))
  ne : b ≠ l
/-- all but the object at b stays -/
def But (H H' : Hp) (b : Addr) : Prop := ∀ a o, H a = some o → a ≠ b → H' a = some o
theorem But.refl {H : Hp} {b : Addr} : But H H b := fun _ _ e _ => e
theorem But.trans {H H1 H2 : Hp} {b : Addr} (x : But H H1 b) (y : But H1 H2 b) : But H H2 b := fun a o e n => y a o (x a o e n) n
theorem But.ex {H H1 H2 : Hp} {b : Addr} (x : But H H1 b) (y : Ex H1 H2) : But H H2 b := fun a o e n => y a o (x a o e n)
theorem But.of {H H1 : Hp} {b : Addr} (y : Ex H H1) : But H H1 b := fun a o e _ => y a o e
theorem But.upd {H H1 : Hp} {b : Addr} {u : HO} (x : But H H1 b) : But H (upd H1 b u) b := fun a o e n => by
  rw [upd_ne n]
  exact x a o e n
theorem BagAt.ext {H H1 : Hp} {b l : Addr} {ns : List Int} {n m : Nat} (B : BagAt H b l ns n) (e : Ex H H1) (h : n ≤ m) : BagAt H1 b l ns m := by
  obtain ⟨⟨i, z, s, c, h1, h2, h3, h4, h5⟩, h6, h7⟩ := B
  exact ⟨⟨i, z, s, c, e _ _ h1, h2, h3, h4, Nat.le_trans h5 h⟩, e _ _ h6, h7⟩
def spPull : Sp := fun vs H Q _ => ∃ (b l : Addr) (ns : List Int) (n : Nat) (many : Int), vs = [.ref b, .int many] ∧ BagAt H b l ns n ∧ n < 1000000 ∧ 0 < many ∧ many < 2 ^ 200 ∧
  ∀ (v : Int) (H' : Hp), 0 ≤ v → v < many → BagAt H' b l ns (n + 1) → But H H' b → Q (.int v) H'
def spBag (K : PySem.W.Frag) : Sp := fun vs H Q _ => ∃ (a : Addr) (ns : List Int), vs = [.ref a] ∧ SqL K H a (ns.map V.int) ∧ ns.length ≤ 63 ∧
  ∀ (b l : Addr) (H' : Hp), H b = none → H l = none → BagAt H' b l ns 0 → Ex H H' → Q (.ref b) H'
end Hs
namespace Hs
open PySem
def top (i : Nat) : Stmt := PySem.Challenge.pw_hueshade_k19_shades_of_pieces.main.body.getD i (.Pass ⟨0, 0, 0, 0⟩)
end Hs
namespace Hs
open PySem PySem.Spec PyProof.Rows L2 Evl
section
variable {P : Program} {w : World} {K : PySem.W.Frag} {mg : Str → Option Value} {base : Heap} {f : Addr} {fd : FuncData}
abbrev sPull : Stmt := top 23
theorem scPull : FnScope ["_law_bag_here", "_law_many", "_law_cell", "_law_got", "_law_wider_here"] ["_law_bag_here", "_law_many"] (defScope sPull) := ⟨rfl, rfl, rfl, by decide +kernel, rfl, by decide +kernel, by decide +kernel⟩
theorem ok_pull (F : FnP K "_law_pull" sPull f fd) (g_len : mg "len" = none) : FnOk P w K mg base CX0 1 f fd ["_law_bag_here", "_law_many"] spPull := by
  have nd := scPull.nd
  refine F.ok scPull (fun vs H Q E h => ?_) (fun cdv A outer s H vs Q E hr h => ⟨_, PSs.nox (Evl.pss_cut (ps_if (PW.pt (pw_and (pt_cmpR op_eq (pe_ix (r := rIxL K) ix_list (pv 0) pe_int (fun _ _ => rfl)) pe_int (nomark _)) (pw_and1 (pt_cmpR op_lt (pe_ix (r := rIxL K) ix_list (pv 0) pe_int (fun _ _ => rfl)) (pe_callB (r := Evl.rLenS K) call_len_seq (by rfl) g_len PySem.boot_len (pa_cons (pe_ix (r := rIxL K) ix_list (pv 0) pe_int (fun _ _ => rfl)) pa_nil)) (nomark _))))) (pss_cons (ps_set (i := 2) nd rfl (.inl rfl) (pe_ix (r := rIxL K) ix_list (pe_ix (r := rIxL K) ix_list (pv 0) pe_int (fun _ _ => rfl)) (pe_ix (r := rIxL K) ix_list (pv 0) pe_int (fun _ _ => rfl)) (fun _ _ => rfl)))
  (pss_cons (ps_asg (pe_op op_add (pe_ix (r := rIxL K) ix_list (pv 0) pe_int (fun _ _ => rfl)) pe_int) (pg_sub (pv 0) pe_int set_list))
  (pss_one (ps_if (pt_cmpR op_ge (pv 2) (pe_op op_pow pe_int pe_int) (nomark _)) (pss_one (ps_asg (pv 2) (pg_sub (pv 0) pe_int set_list))) (pss_one (ps_asg (pe_op op_modN (pe_op op_add (pe_op op_add (pe_op op_mulW (pe_ix (r := rIxL K) ix_list (pv 0) pe_int (fun _ _ => rfl)) pe_int) (pe_op op_modN (pv 2) pe_int)) pe_int) pe_int) (pg_sub (pv 0) pe_int set_list))))))) pss_nil)
  (pss_cons (ps_if (pt_cmpR op_gt (pe_ix (r := rIxL K) ix_list (pv 0) pe_int (fun _ _ => rfl)) pe_int (nomark _)) (pss_cons (ps_set (i := 3) nd rfl (.inl rfl) (pe_op op_modN (pe_ix (r := rIxL K) ix_list (pv 0) pe_int (fun _ _ => rfl)) (pv 1)))
  (pss_cons (ps_asg (pe_op Hs.op_fdivG (pe_ix (r := rIxL K) ix_list (pv 0) pe_int (fun _ _ => rfl)) (pv 1)) (pg_sub (pv 0) pe_int set_list))
  (pss_one (ps_ret (pv 3))))) pss_nil)
  (pss_cons (ps_asg (pe_op op_add (pe_ix (r := rIxL K) ix_list (pv 0) pe_int (fun _ _ => rfl)) pe_int) (pg_sub (pv 0) pe_int set_list))
  (pss_cons (ps_set (i := 4) nd rfl (.inl rfl) (pe_op op_add (pe_op op_mulW (pe_ix (r := rIxL K) ix_list (pv 0) pe_int (fun _ _ => rfl)) (pe_ix (r := rIxL K) ix_list (pv 0) pe_int (fun _ _ => rfl))) (pe_op op_mulW (pe_op op_mulW pe_int (pe_ix (r := rIxL K) ix_list (pv 0) pe_int (fun _ _ => rfl))) (pe_op op_add (pe_op op_modN (pe_ix (r := rIxL K) ix_list (pv 0) pe_int (fun _ _ => rfl)) pe_int) pe_int))))
  (pss_cons (ps_asg (pe_op op_modN (pe_op op_add (pe_op op_add (pv 4) (pe_op op_mulW (pe_op op_mulW (pe_ix (r := rIxL K) ix_list (pv 0) pe_int (fun _ _ => rfl)) (pe_ix (r := rIxL K) ix_list (pv 0) pe_int (fun _ _ => rfl))) (pe_ix (r := rIxL K) ix_list (pv 0) pe_int (fun _ _ => rfl)))) pe_int) pe_int) (pg_sub (pv 0) pe_int set_list))
  (pss_one (ps_ret (pe_op op_modN (pe_op op_add (pe_op Hs.op_fdivG (pe_ix (r := rIxL K) ix_list (pv 0) pe_int (fun _ _ => rfl)) pe_int) (pe_op op_mulW (pe_op op_modN (pe_ix (r := rIxL K) ix_list (pv 0) pe_int (fun _ _ => rfl)) pe_int) pe_int)) (pv 1))))))))), ?_⟩)
  · obtain ⟨b, l, ns, n, many, rfl, _⟩ := h
    rfl
  · obtain ⟨b, l, ns, n, many, rfl, B, hn, hm, hm2, k⟩ := h
    obtain ⟨⟨i, z, s0, c, hb, hi, h0, h1, hc⟩, hl, ne⟩ := B
    refine q_cut (M := fun σ' H' => ∃ v2, σ' = [some (.ref b), some (.int many), v2, none, none] ∧ H' l = some (.lst (ns.map V.int)) ∧ But H H' b ∧ ∃ (i : Nat) (z s : Int), H' b = some (.lst [.ref l, .int i, .int z, .int s, .int c]) ∧ i ≤ ns.length ∧ 0 ≤ s ∧ s < 2147483647) ?_ ?_
    · refine s_when (et_and (et_test (ev_op (ev_ix rfl hb rfl) ev_c (rv_eq rfl))) fun _ => et_test (ev_op (ev_ix rfl hb rfl) (ev_len (ev_ix rfl hb rfl) (sq_of hl)) rv_I0)) (fun ht H1 e1 => ?_) (fun ht H1 e1 => ?_)
      · have hlt : (i : Int) < ((ns.map V.int).length : Int) := by
          rw [Bool.and_eq_true] at ht
          exact of_decide_eq_true ht.2
        rw [List.length_map] at hlt
        have hit : i < ns.length := by omega
        have hg : (ns.map V.int)[i]? = some (V.int ns[i]) := by
          rw [List.getElem?_map, List.getElem?_eq_getElem hit] <;> rfl
        refine q_asg (ev_op (ev_ix rfl (e1 _ _ hb) rfl) (ev_ix rfl (e1 _ _ hb) rfl) (rv_ixL (sq_of (e1 _ _ hl)) (atI_nat hg))) fun H2 e2 => ?_
        have e12 := e1.trans e2
        refine q_setL (j := 1) (e12 _ _ hb) (ev_op (ev_ix rfl (e12 _ _ hb) rfl) ev_c rv_I0) (ev_var rfl) ev_c (by simp) fun H3 e3 => ?_
        have hb3 : (upd H3 b (.lst [.ref l, .int ((i : Int) + 1), .int z, .int s0, .int c])) b = some (.lst [.ref l, .int ((i + 1 : Nat) : Int), .int z, .int s0, .int c]) := upd_same
        have hl3 : (upd H3 b (.lst [.ref l, .int ((i : Int) + 1), .int z, .int s0, .int c])) l = some (.lst (ns.map V.int)) := by
          rw [upd_ne (Ne.symm ne)]
          exact (e12.trans e3) _ _ hl
        have bt3 : But H (upd H3 b (.lst [.ref l, .int ((i : Int) + 1), .int z, .int s0, .int c])) b := But.upd (.of (e12.trans e3))
        refine s_if (et_test (ev_op (ev_var rfl) (ev_op ev_c ev_c (rv_I ⟨by decide, by decide, by decide⟩)) rv_I0)) (fun ht2 H4 e4 => ?_) (fun ht2 H4 e4 => ?_)
        · refine s_setL (j := 2) (e4 _ _ hb3) (ev_var rfl) (ev_var rfl) ev_c (by simp) fun H5 e5 => ?_
          refine ⟨_, rfl, ?_, But.upd ((bt3.ex e4).ex e5), i + 1, ns[i], s0, upd_same, hit, h0, h1⟩
          rw [upd_ne (Ne.symm ne)]
          exact (e4.trans e5) _ _ hl3
        · refine s_setL (j := 3) (e4 _ _ hb3) (ev_op (ev_op (ev_op (ev_op (ev_ix rfl (e4 _ _ hb3) rfl) ev_c (rv_I (mul64 (by omega) (by decide)))) (ev_op (ev_var rfl) ev_c (rv_I (show (2147483563 : Int) ≠ 0 by decide))) rv_I0) ev_c rv_I0) ev_c (rv_I (show (2147483629 : Int) ≠ 0 by decide))) (ev_var rfl) ev_c (by simp) fun H5 e5 => ?_
          have hp := modP (i := s0 * 40503 + (ns[i]).fmod 2147483563 + 1) (j := 2147483629) (by decide)
          refine ⟨_, rfl, ?_, But.upd ((bt3.ex e4).ex e5), i + 1, z, _, upd_same, hit, hp.1, by omega⟩
          rw [upd_ne (Ne.symm ne)]
          exact (e4.trans e5) _ _ hl3
      · exact ⟨none, rfl, e1 _ _ hl, .of e1, i, z, s0, e1 _ _ hb, hi, h0, h1⟩
    · rintro σ' H1 ⟨v2, rfl, hl1, bt1, i, z, s0, hb1, hi, h0, h1⟩
      refine q_when (et_test (ev_op (ev_ix rfl hb1 rfl) ev_c rv_I0)) (fun ht H2 e2 => ?_) (fun ht H2 e2 => ?_)
      · refine q_asg (ev_op (ev_ix rfl (e2 _ _ hb1) rfl) (ev_var rfl) (rv_I (show many ≠ 0 by omega))) fun H3 e3 => ?_
        have e23 := e2.trans e3
        refine q_setL (j := 2) (e23 _ _ hb1) (ev_op (ev_ix rfl (e23 _ _ hb1) rfl) (ev_var rfl) (rv_I (divG (b := 200) (by omega) (by omega) (by decide) (by decide)))) (ev_var rfl) ev_c (by simp) fun H4 e4 => ?_
        have hp := modP (i := z) (j := many) hm
        refine s_ret (ev_var rfl) fun H5 e5 => k _ _ hp.1 hp.2 ?_ ((But.upd (bt1.ex (e23.trans e4))).ex e5)
        refine BagAt.ext (n := n + 1) ⟨⟨i, _, s0, c, upd_same, hi, h0, h1, by omega⟩, ?_, ne⟩ e5 (Nat.le_refl _)
        rw [upd_ne (Ne.symm ne)]
        exact (e23.trans e4) _ _ hl1
      · refine q_setL (j := 4) (e2 _ _ hb1) (ev_op (ev_ix rfl (e2 _ _ hb1) rfl) ev_c rv_I0) (ev_var rfl) ev_c (by simp) fun H3 e3 => ?_
        have hb3 : (upd H3 b (.lst [.ref l, .int i, .int z, .int s0, .int ((c : Int) + 1)])) b = some (.lst [.ref l, .int i, .int z, .int s0, .int ((c : Int) + 1)]) := upd_same
        have hl3 : (upd H3 b (.lst [.ref l, .int i, .int z, .int s0, .int ((c : Int) + 1)])) l = some (.lst (ns.map V.int)) := by
          rw [upd_ne (Ne.symm ne)]
          exact (e2.trans e3) _ _ hl1
        have bt3 : But H (upd H3 b (.lst [.ref l, .int i, .int z, .int s0, .int ((c : Int) + 1)])) b := But.upd (bt1.ex (e2.trans e3))
        have hp1 := modP (i := s0) (j := 8191) (by decide)
        refine q_asg (ev_op (ev_op (ev_ix rfl hb3 rfl) (ev_ix rfl hb3 rfl) (rv_I (mul64 (by omega) (by omega)))) (ev_op (ev_op ev_c (ev_ix rfl hb3 rfl) (rv_I (mul64 (by decide) (by omega)))) (ev_op (ev_op (ev_ix rfl hb3 rfl) ev_c (rv_I (show (8191 : Int) ≠ 0 by decide))) ev_c rv_I0) (rv_I (mul64 (by omega) (by omega)))) rv_I0) fun H4 e4 => ?_
        have hcc : ((c : Int) + 1) * ((c : Int) + 1) ≤ 1000000 * 1000000 := Int.mul_le_mul (by omega) (by omega) (by omega) (by decide)
        have hcd : 0 ≤ ((c : Int) + 1) * ((c : Int) + 1) := Int.mul_nonneg (by omega) (by omega)
        refine q_setL (j := 3) (e4 _ _ hb3) (ev_op (ev_op (ev_op (ev_var rfl) (ev_op (ev_op (ev_ix rfl (e4 _ _ hb3) rfl) (ev_ix rfl (e4 _ _ hb3) rfl) (rv_I (mul64 (by omega) (by omega)))) (ev_ix rfl (e4 _ _ hb3) rfl) (rv_I (mul64 (by omega) (by omega)))) rv_I0) ev_c rv_I0) ev_c (rv_I (show (2147483629 : Int) ≠ 0 by decide))) (ev_var rfl) ev_c (by simp) fun H5 e5 => ?_
        generalize hs' : Int.fmod _ 2147483629 = s1
        have hs1 : 0 ≤ s1 ∧ s1 < 2147483629 := by
          rw [← hs']
          exact modP (by decide)
        have hp2 := modP (i := s1) (j := 7919) (by decide)
        refine s_ret (ev_op (ev_op (ev_op (ev_ix rfl upd_same rfl) ev_c (rv_I (divG (b := 64) (by decide) (by decide) (by decide) (by decide)))) (ev_op (ev_op (ev_ix rfl upd_same rfl) ev_c (rv_I (show (7919 : Int) ≠ 0 by decide))) ev_c (rv_I (mul64 (by omega) (by decide)))) rv_I0) (ev_var rfl) (rv_I (show many ≠ 0 by omega))) fun H6 e6 => ?_
        have hp := modP (i := s1.fdiv 71 + s1.fmod 7919 * 37) (j := many) hm
        refine k _ _ hp.1 hp.2 ?_ ((But.upd (bt3.ex (e4.trans e5))).ex e6)
        refine BagAt.ext (n := n + 1) ⟨⟨i, z, s1, c + 1, upd_same, hi, hs1.1, by omega, by omega⟩, ?_, ne⟩ e6 (Nat.le_refl _)
        rw [upd_ne (Ne.symm ne)]
        exact (e4.trans e5) _ _ hl3
end
end Hs
namespace Hs
open PySem PySem.Spec PyProof.Rows L2 Evl
theorem cut63 {xs : List V} (h : xs.length ≤ 63) : cutV xs none (some 63) = xs := by
  have e1 : HT.sIx xs.length 0 none = 0 := rfl
  have e2 : HT.sIx xs.length xs.length (some 63) = xs.length := by
    show min (63 : Int).toNat xs.length = xs.length
    omega
  unfold cutV
  rw [e1, e2, List.drop_zero, Nat.sub_zero, List.take_length]
section
variable {P : Program} {w : World} {K : PySem.W.Frag} {mg : Str → Option Value} {base : Heap} {f : Addr} {fd : FuncData}
abbrev sBag : Stmt := top 22
theorem scBag : FnScope ["_law_script", "_law_salt", "_law_cell"] ["_law_script"] (defScope sBag) := ⟨rfl, rfl, rfl, by decide +kernel, rfl, by decide +kernel, by decide +kernel⟩
theorem ok_bag (F : FnP K "_law_bag" sBag f fd) (g_len : mg "len" = none) (g_list : mg "list" = none) : FnOk P w K mg base CX0 1 f fd ["_law_script"] (spBag K) := by
  have nd := scBag.nd
  refine F.ok scBag (fun vs H Q E h => ?_) (fun cdv A outer s H vs Q E hr h => ⟨_, PSs.nox (pss_cons (ps_set (i := 1) nd rfl (.inl rfl) (pe_op op_add pe_int (pe_callB (r := Evl.rLenS K) call_len_seq (by rfl) g_len PySem.boot_len (pa_cons (pe_slice sl_list (pv 0) po_none (po_some pe_int)) pa_nil))))
  (pss_cons (ps_for PassesOwn.never rfl (pi_list (pe_slice sl_list (pv 0) po_none (po_some pe_int))) (pg_name (i := 2) nd rfl (.inl rfl)) (pss_one (ps_set (i := 1) nd rfl (.inl rfl) (pe_op op_modN (pe_op op_add (pe_op op_add (pe_op op_mulW (pv 1) pe_int) (pe_op op_modN (pv 2) pe_int)) pe_int) pe_int))))
  (pss_one (ps_ret (pe_lst (pa_cons (pe_callTy (r := Evl.rListS K) call_list_of (by rfl) g_list (by decide +kernel) (pa_cons (pe_slice sl_list (pv 0) po_none (po_some pe_int)) pa_nil)) (pa_cons pe_int (pa_cons pe_int (pa_cons (pv 1) (pa_cons pe_int pa_nil)))))))))), ?_⟩)
  · obtain ⟨a, ns, rfl, _⟩ := h
    rfl
  · obtain ⟨a, ns, rfl, hS, hl, k⟩ := h
    have hl2 : (ns.map V.int).length ≤ 63 := by rw [List.length_map]; exact hl
    have sl : ∀ {σ : L2.St} {H' : Hp}, σ[0]? = some (some (.ref a)) → Ex H H' → EvL (tSl (rSlL K) (tVar 0) tNoPart (tPart (tC (.int 63)))) σ H' (ns.map V.int) := fun {σ H'} h0 e => by
      have q := el_sl (K := K) (σ := σ) (H := H') (ev_var h0) eo_none (eo_some (i := 63) ev_c) (ex_l e hS)
      rw [cut63 hl2] at q
      exact q
    refine q_asg (ev_op ev_c (ev_lenN (sl rfl (Ex.refl H))) rv_I0) fun H1 e1 => ?_
    refine q_forNLn (sl rfl e1) (fun p i σ' H' => Ex H H' ∧ H' p = some (.lst (ns.map V.int)) ∧ ∃ (s0 : Int) (v : Option V), σ' = [some (.ref a), some (.int s0), v] ∧ 0 ≤ s0 ∧ s0 < 2147483647) ?_ ?_ ?_ ?_
    · intro p H2 hp e2 h2
      exact ⟨e1.trans e2, h2, _, none, rfl, by omega, by omega⟩
    · rintro p i σ' H' hi ⟨_, h, _⟩
      exact sq_of h
    · rintro p i x σ' H' hx ⟨e, h, s0, v, rfl, h0, h1⟩
      obtain ⟨z, rfl⟩ : ∃ z, x = V.int z := by
        rw [List.getElem?_map] at hx
        cases ez : ns[i]? with
        | none =>
          rw [ez] at hx
          cases hx
        | some z =>
          rw [ez] at hx
          exact ⟨z, (Option.some.inj hx).symm⟩
      refine s_asg (ev_op (ev_op (ev_op (ev_op (ev_var rfl) ev_c (rv_I (mul64 (by omega) (by decide)))) (ev_op (ev_var rfl) ev_c (rv_I (show (2147483629 : Int) ≠ 0 by decide))) rv_I0) ev_c rv_I0) ev_c (rv_I (show (2147483647 : Int) ≠ 0 by decide))) fun H2 e2 => ?_
      have hp := modP (i := s0 * 48271 + z.fmod 2147483629 + 7) (j := 2147483647) (by decide)
      exact ⟨e.trans e2, e2 _ _ h, _, _, rfl, hp.1, hp.2⟩
    · rintro p σ' H' ⟨e, h, s0, v, rfl, h0, h1⟩
      refine sl (σ := [some (.ref a), some (.int s0), v]) rfl e H' (Ex.refl _) _ fun q H2 hq e2 h2 => ⟨q, _, rfl, .inl (sq_of h2), fun l hl3 => ⟨_, rfl, sz_of (by simp), fun b hb3 => ?_⟩⟩
      have hne : l ≠ b := fun z => by
        rw [← z, upd_same] at hb3
        cases hb3
      have e3 : Ex H (upd H2 l (.lst (ns.map V.int))) := (e.trans e2).trans (Ex.new hl3)
      refine k b l _ (fresh_back e3 hb3) (fresh_back (e.trans e2) hl3) ⟨⟨0, 0, s0, 0, upd_same, Nat.zero_le _, h0, h1, Nat.le_refl _⟩, ?_, Ne.symm hne⟩ (e3.trans (Ex.new hb3))
      rw [upd_ne hne, upd_same]
end
end Hs
namespace Hs
open PySem PySem.Spec PyProof.Rows L2 Evl
/-! ### two data alike: the law's own comparison -/
def Sm (K : PySem.W.Frag) (H : Hp) : Nat → V → V → Prop
  | 0, _, _ => False
  | d + 1, u, v => (u = v ∧ flatV u = true) ∨ ∃ (a b : Addr) (xs ys : List V), u = .ref a ∧ v = .ref b ∧ ((SqL K H a xs ∧ SqL K H b ys) ∨ (SqT K H a xs ∧ SqT K H b ys)) ∧ xs.length = ys.length ∧ xs.length ≤ 1000 ∧
      ∀ (i : Nat) (x y : V), xs[i]? = some x → ys[i]? = some y → Sm K H d x y
theorem Sm.ext {K : PySem.W.Frag} {H H' : Hp} (e : Ex H H') : ∀ {d : Nat} {u v : V}, Sm K H d u v → Sm K H' d u v
  | 0, _, _, h => h.elim
  | d + 1, u, v, h => by
    rcases h with h | ⟨a, b, xs, ys, h1, h2, h3, h4, h5, h6⟩
    · exact .inl h
    · refine .inr ⟨a, b, xs, ys, h1, h2, ?_, h4, h5, fun i x y hx hy => Sm.ext e (h6 i x y hx hy)⟩
      rcases h3 with ⟨p, q⟩ | ⟨p, q⟩
      · exact .inl ⟨ex_l e p, ex_l e q⟩
      · exact .inr ⟨ex_t e p, ex_t e q⟩
def spSame (K : PySem.W.Frag) (d : Nat) : Sp := fun vs H Q _ => ∃ u v : V, vs = [u, v] ∧ Sm K H d u v ∧ RetV (.bl true) H Q
/-- of the built-in type t, whatever is new -/
def Ty (K : PySem.W.Frag) (H : Hp) (x : V) (t : String) : Prop := ∀ H1, Ex H H1 → TyX K H1 x (.type t)
theorem ty_l {K : PySem.W.Frag} {H : Hp} {a : Addr} {xs : List V} (h : SqL K H a xs) : Ty K H (.ref a) "list" := fun H1 e => by
  rcases ex_l e h with (h | ⟨o, h⟩) | ⟨o, its, n, h1, h2, _⟩
  · exact .base (.lst h)
  · exact .base (.frz h)
  · exact .kList h1 h2
theorem ty_t {K : PySem.W.Frag} {H : Hp} {a : Addr} {xs : List V} (h : SqT K H a xs) : Ty K H (.ref a) "tuple" := fun H1 e => by
  rcases ex_t e h with (h | ⟨o, h⟩) | ⟨o, its, n, h1, h2, _⟩
  · exact .base (.tup h)
  · exact .fTuple h
  · exact .kTuple h1 h2
theorem ty_bl {K : PySem.W.Frag} {H : Hp} {b : Bool} : Ty K H (.bl b) "bool" := fun _ _ => .base (.bl b)
theorem ty_int {K : PySem.W.Frag} {H : Hp} {b : Int} : Ty K H (.int b) "int" := fun _ _ => .base (.int b)
theorem ty_str {K : PySem.W.Frag} {H : Hp} {b : Str} : Ty K H (.str b) "str" := fun _ _ => .base (.str b)
theorem ev_isi {K : PySem.W.Frag} {σ : L2.St} {H : Hp} {te : TE} {x : V} {t c : String} {b : Bool} (h : Ev te σ H x) (ht : Ty K H x t) (hk : kitB t c = some b) : Ev (tCB (rIsi K) (tCons te (tCons (tC (.ty c)) tNil))) σ H (.bl b) := fun H1 e Q q =>
  h H1 e _ fun H2 e2 => ⟨x, .ty c, .type t, .type c, b, rfl, .ty c, ht H2 (e.trans e2), kit_ty hk, q H2 e2⟩
theorem ev_isi2 {K : PySem.W.Frag} {σ : L2.St} {H : Hp} {te : TE} {x : V} {t c c' : String} {b b' : Bool} (h : Ev te σ H x) (ht : Ty K H x t) (hk : kitB t c = some b) (hk' : kitB t c' = some b') :
    Ev (tCB (rIsiT K) (tCons te (tCons (tTup (tCons (tC (.ty c)) (tCons (tC (.ty c')) tNil))) tNil))) σ H (.bl (b || b')) := fun H1 e Q q =>
  h H1 e _ fun H2 e2 => ⟨sz_of (by simp), fun p hp => ⟨x, p, [.ty c, .ty c'], .type t, [.type c, .type c'], b || b', rfl, upd_same, .cons (.ty c) (.cons (.ty c') .nil), ht _ ((e.trans e2).trans (Ex.new hp)), by
    refine kitAny_cons (kit_ty hk) (fun hb => ?_) (fun hb => by rw [hb] <;> rfl)
    rw [hb, Bool.false_or]
    exact kitAny_cons (kit_ty hk') (fun hb' => by rw [hb']; exact kitAny_nil) (fun hb' => hb'), q _ (e2.trans (Ex.new hp))⟩⟩
theorem rv_ixQ {K : PySem.W.Frag} {H : Hp} {p : Addr} {xs : List V} {i : Int} {v : V} (h : SqL K H p xs ∨ SqT K H p xs) (ha : atI xs i = some v) : RV (rIx K) (.ref p) (.int i) H v := fun H1 e Q q => by
  rcases h with h | h
  · exact .inl (rv_ixL h ha H1 e Q q)
  · exact .inr (.inl (rv_ixT h ha H1 e Q q))
theorem ev_lenQ {K : PySem.W.Frag} {σ : L2.St} {H : Hp} {ta : TE} {p : Addr} {xs : List V} (ha : Ev ta σ H (.ref p)) (h : SqL K H p xs ∨ SqT K H p xs) : Ev (tCB (rLenS K) (tCons ta tNil)) σ H (.int (xs.length : Int)) := fun H1 e Q q =>
  ha H1 e _ fun H2 e2 => ⟨p, xs, rfl, h.imp (fun h => ex_l (e.trans e2) h) (fun h => ex_t (e.trans e2) h), q H2 e2⟩
theorem given_true (n : Nat) : given n (fun _ => true) (fun _ => V.bl true) = (List.replicate n true).map V.bl := by
  induction n with
  | zero => rfl
  | succ n ih =>
    rw [given_yes rfl, ih, List.replicate_succ', List.map_append] <;> rfl
theorem ev_allT {K : PySem.W.Frag} {σ : L2.St} {H : Hp} {te : TE} {n : Nat} (h : EvL te σ H (given n (fun _ => true) (fun _ => V.bl true))) : Ev (tCB (rAll K) (tCons te tNil)) σ H (.bl true) := fun H1 e Q q =>
  h H1 e _ fun p H2 _ e2 h2 => ⟨p, List.replicate n true, rfl, sq_of (by rw [h2, given_true]), by
    have e3 : (List.replicate n true).all id = true := by simp
    rw [e3]
    exact q H2 e2⟩
theorem kb_bool_bool : kitB "bool" "bool" = some true := by decide +kernel
theorem kb_bool_int : kitB "bool" "int" = some true := by decide +kernel
theorem kb_bool_str : kitB "bool" "str" = some false := by decide +kernel
theorem kb_bool_list : kitB "bool" "list" = some false := by decide +kernel
theorem kb_bool_tuple : kitB "bool" "tuple" = some false := by decide +kernel
theorem kb_int_bool : kitB "int" "bool" = some false := by decide +kernel
theorem kb_int_int : kitB "int" "int" = some true := by decide +kernel
theorem kb_int_str : kitB "int" "str" = some false := by decide +kernel
theorem kb_int_list : kitB "int" "list" = some false := by decide +kernel
theorem kb_int_tuple : kitB "int" "tuple" = some false := by decide +kernel
theorem kb_str_bool : kitB "str" "bool" = some false := by decide +kernel
theorem kb_str_int : kitB "str" "int" = some false := by decide +kernel
theorem kb_str_str : kitB "str" "str" = some true := by decide +kernel
theorem kb_str_list : kitB "str" "list" = some false := by decide +kernel
theorem kb_str_tuple : kitB "str" "tuple" = some false := by decide +kernel
theorem kb_list_bool : kitB "list" "bool" = some false := by decide +kernel
theorem kb_list_int : kitB "list" "int" = some false := by decide +kernel
theorem kb_list_str : kitB "list" "str" = some false := by decide +kernel
theorem kb_list_list : kitB "list" "list" = some true := by decide +kernel
theorem kb_list_tuple : kitB "list" "tuple" = some false := by decide +kernel
theorem kb_tuple_bool : kitB "tuple" "bool" = some false := by decide +kernel
theorem kb_tuple_int : kitB "tuple" "int" = some false := by decide +kernel
theorem kb_tuple_str : kitB "tuple" "str" = some false := by decide +kernel
theorem kb_tuple_list : kitB "tuple" "list" = some false := by decide +kernel
theorem kb_tuple_tuple : kitB "tuple" "tuple" = some true := by decide +kernel
section
variable {P : Program} {w : World} {K : PySem.W.Frag} {mg : Str → Option Value} {base : Heap} {f : Addr} {fd : FuncData}
abbrev sSame : Stmt := top 26
theorem scSame : FnScope ["_law_got", "_law_due", "_law_k"] ["_law_got", "_law_due"] (defScope sSame) := ⟨rfl, rfl, rfl, by decide +kernel, rfl, by decide +kernel, by decide +kernel⟩
theorem ok_same (F : FnP K "_law_same" sSame f fd) (m : mg "_law_same" = some (.ref f)) (g_len : mg "len" = none) (g_isinstance : mg "isinstance" = none) (g_bool : mg "bool" = none) (g_int : mg "int" = none) (g_str : mg "str" = none) (g_list : mg "list" = none) (g_tuple : mg "tuple" = none)
    (g_all : mg "all" = none) (g_range : mg "range" = none) : ∀ d, FnOk P w K mg base CX0 d f fd ["_law_got", "_law_due"] (spSame K d)
  | 0 => ⟨fun _ _ _ _ h => by
      obtain ⟨u, v, _, h, _⟩ := h
      exact h.elim, fun _ _ _ _ _ _ _ _ _ _ _ _ _ h => by
      obtain ⟨u, v, _, h, _⟩ := h
      exact h.elim⟩
  | d + 1 => by
    have O__law_same : Own P w K mg base d "_law_same" ["_law_got", "_law_due"] (spSame K d) := own_of F m (ok_same F m g_len g_isinstance g_bool g_int g_str g_list g_tuple g_all g_range d) fun _ _ _ _ _ _ us hl => match us, hl with | [_, _], _ => rfl
    have nd := scSame.nd
    refine F.ok scSame (fun vs H Q E h => ?_) (fun cdv A outer s H vs Q E hr h => ⟨_, PSs.nox (pss_cons (ps_if (PW.pt (pw_or (pt_cmpR op_isN (pv 1) pe_non (nomark _)) (pw_or1 (pt_cmpR op_isN (pv 0) pe_non (nomark _))))) (pss_one (ps_ret (pe_and (pe_cmpR op_isN (pv 1) pe_non (nomark _)) (pe_one (pe_cmpR op_isN (pv 0) pe_non (nomark _)))))) pss_nil)
  (pss_cons (ps_if (PW.pt (pw_or (pt_val (pe_callB (r := rIsi K) call_isi (by rfl) g_isinstance (by decide +kernel) (pa_cons (pv 1) (pa_cons (pe_bltn (v := .ty "bool") (by rfl) g_bool (by decide +kernel) rfl) pa_nil)))) (pw_or1 (pt_val (pe_callB (r := rIsi K) call_isi (by rfl) g_isinstance (by decide +kernel) (pa_cons (pv 0) (pa_cons (pe_bltn (v := .ty "bool") (by rfl) g_bool (by decide +kernel) rfl) pa_nil))))))) (pss_one (ps_ret (pe_and (pe_callB (r := rIsi K) call_isi (by rfl) g_isinstance (by decide +kernel) (pa_cons (pv 1) (pa_cons (pe_bltn (v := .ty "bool") (by rfl) g_bool (by decide +kernel) rfl) pa_nil))) (pe_and (pe_callB (r := rIsi K) call_isi (by rfl) g_isinstance (by decide +kernel) (pa_cons (pv 0) (pa_cons (pe_bltn (v := .ty "bool") (by rfl) g_bool (by decide +kernel) rfl) pa_nil))) (pe_one (pe_cmpR op_eq (pv 0) (pv 1) (nomark _))))))) pss_nil)
  (pss_cons (ps_if (pt_val (pe_callB (r := rIsiT K) call_isiT (by rfl) g_isinstance (by decide +kernel) (pa_cons (pv 1) (pa_cons (pe_tup (pa_cons (pe_bltn (v := .ty "int") (by rfl) g_int (by decide +kernel) rfl) (pa_cons (pe_bltn (v := .ty "str") (by rfl) g_str (by decide +kernel) rfl) pa_nil))) pa_nil)))) (pss_one (ps_ret (pe_and (pe_cmpR op_eq (pe_callB (r := rIsi K) call_isi (by rfl) g_isinstance (by decide +kernel) (pa_cons (pv 0) (pa_cons (pe_bltn (v := .ty "int") (by rfl) g_int (by decide +kernel) rfl) pa_nil))) (pe_callB (r := rIsi K) call_isi (by rfl) g_isinstance (by decide +kernel) (pa_cons (pv 1) (pa_cons (pe_bltn (v := .ty "int") (by rfl) g_int (by decide +kernel) rfl) pa_nil))) (nomark _)) (pe_one (pe_cmpR op_eq (pv 0) (pv 1) (nomark _)))))) pss_nil)
  (pss_cons (ps_if (PW.pt (pw_or (pt_cmpR op_ne (pe_callB (r := rIsi K) call_isi (by rfl) g_isinstance (by decide +kernel) (pa_cons (pv 1) (pa_cons (pe_bltn (v := .ty "list") (by rfl) g_list (by decide +kernel) rfl) pa_nil))) (pe_callB (r := rIsi K) call_isi (by rfl) g_isinstance (by decide +kernel) (pa_cons (pv 0) (pa_cons (pe_bltn (v := .ty "list") (by rfl) g_list (by decide +kernel) rfl) pa_nil))) (nomark _)) (pw_or1 (pt_cmpR op_ne (pe_callB (r := rIsi K) call_isi (by rfl) g_isinstance (by decide +kernel) (pa_cons (pv 1) (pa_cons (pe_bltn (v := .ty "tuple") (by rfl) g_tuple (by decide +kernel) rfl) pa_nil))) (pe_callB (r := rIsi K) call_isi (by rfl) g_isinstance (by decide +kernel) (pa_cons (pv 0) (pa_cons (pe_bltn (v := .ty "tuple") (by rfl) g_tuple (by decide +kernel) rfl) pa_nil))) (nomark _))))) (pss_one (ps_ret pe_bl)) pss_nil)
  (pss_one (ps_ret (pe_and (pe_cmpR op_eq (pe_callB (r := Evl.rLenS K) call_len_seq (by rfl) g_len PySem.boot_len (pa_cons (pv 0) pa_nil)) (pe_callB (r := Evl.rLenS K) call_len_seq (by rfl) g_len PySem.boot_len (pa_cons (pv 1) pa_nil)) (nomark _)) (pe_one (pe_callB (r := rAll K) (cr_all rfl) (by rfl) g_all (by decide +kernel) (pa_cons (pe_lc (own := [("_law_k", 2)]) rfl nd (pi_range1 (by rfl) g_range (pa_cons (pe_callB (r := Evl.rLenS K) call_len_seq (by rfl) g_len PySem.boot_len (pa_cons (pv 1) pa_nil)) pa_nil)) (blkOk_by (N := ["_law_got", "_law_due", "_law_k"]) (sc := defScope (Hs.top 26)) (by decide +kernel)) (fun _ _ _ _ _ => (pg_name (i := 2) nd rfl (Or.inl rfl))) (fun _ _ _ _ _ => pts_nil) (fun _ _ _ _ _ => (Hs.pe_own O__law_same hr (by first | decide | omega) (by rfl) (pa_cons (pe_ix (r := rIx K) ix_seq (pv 0) (pv 2) (fun _ _ => rfl)) (pa_cons (pe_ix (r := rIx K) ix_seq (pv 1) (pv 2) (fun _ _ => rfl)) pa_nil))))) pa_nil)))))))))), ?_⟩)
    · obtain ⟨u, v, rfl, _⟩ := h
      rfl
    · obtain ⟨u, v, rfl, h, k⟩ := h
      rcases h with ⟨rfl, hf⟩ | ⟨a, b, xs, ys, rfl, rfl, hq, hlen, hz, hi⟩
      · cases u with
        | non =>
          refine q_when (et_or (et_test (ev_op (ev_var rfl) ev_c (rv_val fun H1 _ Q q => ⟨rfl, q⟩))) (fun _ => et_test (ev_op (ev_var rfl) ev_c (rv_val fun H1 _ Q q => ⟨rfl, q⟩)))) (fun ht H1 e1 => ?_) (fun ht => by simp at ht)
          exact s_ret (ev_is (ev_andV (ev_op (ev_var rfl) ev_c (rv_val fun H1 _ Q q => ⟨rfl, q⟩)) (fun _ => ev_op (ev_var rfl) ev_c (rv_val fun H1 _ Q q => ⟨rfl, q⟩))) (by simp)) fun H2 e2 => k _ (e1.trans e2)
        | bl y =>
          refine q_when (b := false) (et_is (et_or (et_test (ev_op (ev_var rfl) ev_c (rv_val fun H1 _ Q q => ⟨rfl, q⟩))) (fun _ => et_test (ev_op (ev_var rfl) ev_c (rv_val fun H1 _ Q q => ⟨rfl, q⟩)))) (by simp)) (fun ht => Bool.noConfusion ht) (fun _ H1 e1 => ?_)
          refine q_when (b := true) (et_is (et_or (et_B (ev_isi (ev_var rfl) ty_bl kb_bool_bool)) (fun _ => et_B (ev_isi (ev_var rfl) ty_bl kb_bool_bool))) (by simp)) (fun _ H2 e2 => ?_) (fun ht => Bool.noConfusion ht)
          exact s_ret (ev_is (ev_andV (ev_isi (ev_var rfl) ty_bl kb_bool_bool) (fun _ => ev_andV (ev_isi (ev_var rfl) ty_bl kb_bool_bool) (fun _ => ev_op (ev_var rfl) (ev_var rfl) (rv_eq rfl)))) (by simp)) fun H3 e3 => k _ ((e1.trans e2).trans e3)
        | int i =>
          refine q_when (b := false) (et_is (et_or (et_test (ev_op (ev_var rfl) ev_c (rv_val fun H1 _ Q q => ⟨rfl, q⟩))) (fun _ => et_test (ev_op (ev_var rfl) ev_c (rv_val fun H1 _ Q q => ⟨rfl, q⟩)))) (by simp)) (fun ht => Bool.noConfusion ht) (fun _ H1 e1 => ?_)
          refine q_when (b := false) (et_is (et_or (et_B (ev_isi (ev_var rfl) ty_int kb_int_bool)) (fun _ => et_B (ev_isi (ev_var rfl) ty_int kb_int_bool))) (by simp)) (fun ht => Bool.noConfusion ht) (fun _ H2 e2 => ?_)
          refine q_when (b := true) (et_is (et_B (ev_isi2 (ev_var rfl) ty_int kb_int_int kb_int_str)) (by simp)) (fun _ H3 e3 => ?_) (fun ht => Bool.noConfusion ht)
          exact s_ret (ev_is (ev_andV (ev_op (ev_isi (ev_var rfl) ty_int kb_int_int) (ev_isi (ev_var rfl) ty_int kb_int_int) (rv_eq rfl)) (fun _ => ev_op (ev_var rfl) (ev_var rfl) (rv_eq rfl))) (by simp)) fun H4 e4 => k _ (((e1.trans e2).trans e3).trans e4)
        | str x =>
          refine q_when (b := false) (et_is (et_or (et_test (ev_op (ev_var rfl) ev_c (rv_val fun H1 _ Q q => ⟨rfl, q⟩))) (fun _ => et_test (ev_op (ev_var rfl) ev_c (rv_val fun H1 _ Q q => ⟨rfl, q⟩)))) (by simp)) (fun ht => Bool.noConfusion ht) (fun _ H1 e1 => ?_)
          refine q_when (b := false) (et_is (et_or (et_B (ev_isi (ev_var rfl) ty_str kb_str_bool)) (fun _ => et_B (ev_isi (ev_var rfl) ty_str kb_str_bool))) (by simp)) (fun ht => Bool.noConfusion ht) (fun _ H2 e2 => ?_)
          refine q_when (b := true) (et_is (et_B (ev_isi2 (ev_var rfl) ty_str kb_str_int kb_str_str)) (by simp)) (fun _ H3 e3 => ?_) (fun ht => Bool.noConfusion ht)
          exact s_ret (ev_is (ev_andV (ev_op (ev_isi (ev_var rfl) ty_str kb_str_int) (ev_isi (ev_var rfl) ty_str kb_str_int) (rv_eq rfl)) (fun _ => ev_op (ev_var rfl) (ev_var rfl) (rv_eq rfl))) (by simp)) fun H4 e4 => k _ (((e1.trans e2).trans e3).trans e4)
        | _ => cases hf
      · have ta : ∀ {H' : Hp}, Ex H H' → (Ty K H' (.ref a) "list" ∧ Ty K H' (.ref b) "list") ∨ (Ty K H' (.ref a) "tuple" ∧ Ty K H' (.ref b) "tuple") := fun {H'} e => by
          rcases hq with ⟨p, q⟩ | ⟨p, q⟩
          · exact .inl ⟨ty_l (ex_l e p), ty_l (ex_l e q)⟩
          · exact .inr ⟨ty_t (ex_t e p), ty_t (ex_t e q)⟩
        have qa : ∀ {H' : Hp}, Ex H H' → SqL K H' a xs ∨ SqT K H' a xs := fun {H'} e => hq.imp (fun h => ex_l e h.1) (fun h => ex_t e h.1)
        have qb : ∀ {H' : Hp}, Ex H H' → SqL K H' b ys ∨ SqT K H' b ys := fun {H'} e => hq.imp (fun h => ex_l e h.2) (fun h => ex_t e h.2)
        refine q_when (b := false) (et_is (et_or (et_test (ev_op (ev_var rfl) ev_c (rv_val fun H1 _ Q q => ⟨rfl, q⟩))) (fun _ => et_test (ev_op (ev_var rfl) ev_c (rv_val fun H1 _ Q q => ⟨rfl, q⟩)))) (by simp)) (fun ht => Bool.noConfusion ht) (fun _ H1 e1 => ?_)
        have t2 : ∀ {σ : L2.St} {H' : Hp}, σ[0]? = some (some (.ref a)) → σ[1]? = some (some (.ref b)) → Ex H H' → Ev (tCB (rIsi K) (tCons (tVar 1) (tCons (tC (.ty "bool")) tNil))) σ H' (.bl false) ∧ Ev (tCB (rIsi K) (tCons (tVar 0) (tCons (tC (.ty "bool")) tNil))) σ H' (.bl false) ∧
            Ev (tCB (rIsiT K) (tCons (tVar 1) (tCons (tTup (tCons (tC (.ty "int")) (tCons (tC (.ty "str")) tNil))) tNil))) σ H' (.bl false) ∧
            ∃ b1 b2, Ev (tCB (rIsi K) (tCons (tVar 1) (tCons (tC (.ty "list")) tNil))) σ H' (.bl b1) ∧ Ev (tCB (rIsi K) (tCons (tVar 0) (tCons (tC (.ty "list")) tNil))) σ H' (.bl b1) ∧ Ev (tCB (rIsi K) (tCons (tVar 1) (tCons (tC (.ty "tuple")) tNil))) σ H' (.bl b2) ∧ Ev (tCB (rIsi K) (tCons (tVar 0) (tCons (tC (.ty "tuple")) tNil))) σ H' (.bl b2) := fun {σ H'} h0 h1 e => by
          rcases ta e with ⟨p, q⟩ | ⟨p, q⟩
          · exact ⟨ev_isi (ev_var h1) q kb_list_bool, ev_isi (ev_var h0) p kb_list_bool, ev_isi2 (ev_var h1) q kb_list_int kb_list_str, true, false, ev_isi (ev_var h1) q kb_list_list, ev_isi (ev_var h0) p kb_list_list, ev_isi (ev_var h1) q kb_list_tuple, ev_isi (ev_var h0) p kb_list_tuple⟩
          · exact ⟨ev_isi (ev_var h1) q kb_tuple_bool, ev_isi (ev_var h0) p kb_tuple_bool, ev_isi2 (ev_var h1) q kb_tuple_int kb_tuple_str, false, true, ev_isi (ev_var h1) q kb_tuple_list, ev_isi (ev_var h0) p kb_tuple_list, ev_isi (ev_var h1) q kb_tuple_tuple, ev_isi (ev_var h0) p kb_tuple_tuple⟩
        obtain ⟨i1, i2, _⟩ := t2 (σ := [some (.ref a), some (.ref b), none]) rfl rfl e1
        refine q_when (b := false) (et_is (et_or (et_B i1) (fun _ => et_B i2)) (by simp)) (fun ht => Bool.noConfusion ht) (fun _ H2 e2 => ?_)
        obtain ⟨_, _, i3, _⟩ := t2 (σ := [some (.ref a), some (.ref b), none]) rfl rfl (e1.trans e2)
        refine q_when (b := false) (et_B i3) (fun ht => Bool.noConfusion ht) (fun _ H3 e3 => ?_)
        have e03 := (e1.trans e2).trans e3
        obtain ⟨_, _, _, b1, b2, j1, j2, j3, j4⟩ := t2 (σ := [some (.ref a), some (.ref b), none]) rfl rfl e03
        refine q_when (b := false) (et_is (et_or (et_test (ev_op j1 j2 (rv_ne rfl))) (fun _ => et_test (ev_op j3 j4 (rv_ne rfl)))) (by simp)) (fun ht => Bool.noConfusion ht) (fun _ H4 e4 => ?_)
        have e04 := e03.trans e4
        refine s_ret (ev_is (ev_andV (ev_op (ev_lenQ (ev_var rfl) (qa e04)) (ev_lenQ (ev_var rfl) (qb e04)) (rv_eq rfl)) (fun _ => ev_allT (n := ys.length) ?_)) (by simp [hlen])) fun H5 e5 => k _ (e04.trans e5)
        refine el_lcR1 (n := (ys.length : Int)) (fun _ => true) (fun _ => V.bl true) (ea_cons (ev_lenQ (ev_var rfl) (qb e04)) ea_nil) (by omega) (fun x => rfl) (fun i H6 e6 hi6 H7 e7 Q' q' => q' H7 (Ex.refl H7)) (fun i H6 e6 hi6 _ => ?_)
        have hiy : i < ys.length := by omega
        have hix : i < xs.length := by omega
        have gx : xs[i]? = some xs[i] := List.getElem?_eq_getElem hix
        have gy : ys[i]? = some ys[i] := List.getElem?_eq_getElem hiy
        have e06 := e04.trans e6
        exact ev_call (ea_cons (ev_op (ev_var rfl) (ev_var rfl) (rv_ixQ (qa e06) (atI_nat gx))) (ea_cons (ev_op (ev_var rfl) (ev_var rfl) (rv_ixQ (qb e06) (atI_nat gy))) ea_nil)) fun H7 e7 Q' q' E' => ⟨_, _, rfl, (hi i _ _ gx gy).ext (e06.trans e7), q'⟩
end
end Hs
namespace Hs
open PySem PySem.Spec PyProof.Rows L2 Evl
/-! ### numbers of bounded size -/
def Bd (n : Nat) (i : Int) : Prop := i.natAbs < 2 ^ n
theorem Bd.mono {n m : Nat} {i : Int} (h : Bd n i) (l : n ≤ m) : Bd m i := Nat.lt_of_lt_of_le h (Nat.pow_le_pow_right (by decide) l)
theorem Bd.sub {n : Nat} {i j : Int} (hi : Bd n i) (hj : Bd n j) : Bd (n + 1) (i - j) := by
  unfold Bd at *
  rw [Nat.pow_succ]
  generalize 2 ^ n = N at *
  omega
theorem Bd.add {n : Nat} {i j : Int} (hi : Bd n i) (hj : Bd n j) : Bd (n + 1) (i + j) := by
  unfold Bd at *
  rw [Nat.pow_succ]
  generalize 2 ^ n = N at *
  omega
theorem Bd.neg {n : Nat} {i : Int} (hi : Bd n i) : Bd n (-i) := by
  unfold Bd at *
  omega
theorem Bd.mul {n m : Nat} {i j : Int} (hi : Bd n i) (hj : Bd m j) : Bd (n + m) (i * j) := by
  unfold Bd at *
  rw [Int.natAbs_mul, Nat.pow_add]
  exact Nat.mul_lt_mul'' hi hj
theorem Bd.cmul {n m : Nat} {i j : Int} (hi : Bd n i) (hj : Bd m j) (h : n + m ≤ 90000 := by decide) : CMulW i j := wide_mul (hi.mono (Nat.le_succ _)) (hj.mono (Nat.le_succ _)) (Nat.succ_pos _) (Nat.succ_pos _) (by omega)
theorem Bd.of {n : Nat} {i : Int} (h : i.natAbs < 2 ^ n) : Bd n i := h
/-! ### places, pieces, blocks -/
abbrev Pt := Int × Int
def prV (x : Pt) : List V := [.int x.1, .int x.2]
def RetU (xs : List V) (H : Hp) (Q : VK) : Prop := ∀ p H2, H p = none → Ex H H2 → H2 p = some (.tup xs) → Q (.ref p) H2
theorem RetU.go {xs : List V} {H H' : Hp} {Q : VK} (k : RetU xs H Q) (e : Ex H H') {p : Addr} {H2 : Hp} (hp : H' p = none) (e2 : Ex H' H2) (h : H2 p = some (.tup xs)) : Q (.ref p) H2 := k p H2 (fresh_back e hp) (e.trans e2) h
/-- a place within 2 ^ n -/
def Pl (K : PySem.W.Frag) (n : Nat) (H : Hp) (p : Addr) (x : Pt) : Prop := SqT K H p (prV x) ∧ Bd n x.1 ∧ Bd n x.2
theorem Pl.ext {K : PySem.W.Frag} {n : Nat} {H H' : Hp} {p : Addr} {x : Pt} (h : Pl K n H p x) (e : Ex H H') : Pl K n H' p x := ⟨ex_t e h.1, h.2⟩
def Pc (K : PySem.W.Frag) (n : Nat) (H : Hp) (p : Addr) (x y : Pt) : Prop := ∃ a b, SqT K H p [.ref a, .ref b] ∧ Pl K n H a x ∧ Pl K n H b y
theorem Pc.ext {K : PySem.W.Frag} {n : Nat} {H H' : Hp} {p : Addr} {x y : Pt} (h : Pc K n H p x y) (e : Ex H H') : Pc K n H' p x y := by
  obtain ⟨a, b, h1, h2, h3⟩ := h
  exact ⟨a, b, ex_t e h1, h2.ext e, h3.ext e⟩
structure Blk where
  left : Int
  low : Int
  right : Int
  high : Int
def blV (b : Blk) : List V := [.int b.left, .int b.low, .int b.right, .int b.high]
def BdB (n : Nat) (b : Blk) : Prop := Bd n b.left ∧ Bd n b.low ∧ Bd n b.right ∧ Bd n b.high
def Bl (K : PySem.W.Frag) (n : Nat) (H : Hp) (p : Addr) (b : Blk) : Prop := SqT K H p (blV b) ∧ BdB n b
theorem Bl.ext {K : PySem.W.Frag} {n : Nat} {H H' : Hp} {p : Addr} {x : Blk} (h : Bl K n H p x) (e : Ex H H') : Bl K n H' p x := ⟨ex_t e h.1, h.2⟩
def cross (a b c : Pt) : Int := (b.1 - a.1) * (c.2 - a.2) - (b.2 - a.2) * (c.1 - a.1)
def sgn (i : Int) : Int := if 0 < i then 1 else if i < 0 then -1 else 0
def mn (i j : Int) : Int := if j < i then j else i
def mx (i j : Int) : Int := if j > i then j else i
theorem Bd.mn {n : Nat} {i j : Int} (hi : Bd n i) (hj : Bd n j) : Bd n (mn i j) := by
  unfold Hs.mn
  split
  · exact hj
  · exact hi
theorem Bd.mx {n : Nat} {i j : Int} (hi : Bd n i) (hj : Bd n j) : Bd n (mx i j) := by
  unfold Hs.mx
  split
  · exact hj
  · exact hi
def boxOf (a b : Pt) : Blk := ⟨mn a.1 b.1, mn a.2 b.2, mx a.1 b.1, mx a.2 b.2⟩
def hts (b : Blk) (x : Pt) : List Int := [x.1 - b.left, b.right - x.1, x.2 - b.low, b.high - x.2]
def phts (a b x : Pt) : List Int := cross a b x :: -cross a b x :: hts (boxOf a b) x
theorem box_bd {n : Nat} {a b : Pt} (ha : Bd n a.1 ∧ Bd n a.2) (hb : Bd n b.1 ∧ Bd n b.2) : BdB n (boxOf a b) := ⟨ha.1.mn hb.1, ha.2.mn hb.2, ha.1.mx hb.1, ha.2.mx hb.2⟩
theorem ev_x1 {K : PySem.W.Frag} {σ : L2.St} {H : Hp} {p : Addr} {x : Pt} {n j : Nat} (hs : σ[j]? = some (some (.ref p))) (h : Pl K n H p x) : Ev (tOp (rIxT K) (tVar j) (tC (.int 0))) σ H (.int x.1) := ev_ixt hs h.1 rfl
theorem ev_x2 {K : PySem.W.Frag} {σ : L2.St} {H : Hp} {p : Addr} {x : Pt} {n j : Nat} (hs : σ[j]? = some (some (.ref p))) (h : Pl K n H p x) : Ev (tOp (rIxT K) (tVar j) (tC (.int 1))) σ H (.int x.2) := ev_ixt hs h.1 rfl
theorem ev_min2 {σ : L2.St} {H : Hp} {ta tb : TE} {i j : Int} (ha : Ev ta σ H (.int i)) (hb : Ev tb σ H (.int j)) : Ev (tCB (fun xs H Q => ∃ i j, xs = [.int i, .int j] ∧ Q (.int (if j < i then j else i)) H) (tCons ta (tCons tb tNil))) σ H (.int (mn i j)) := ev_cb (ea_cons ha (ea_cons hb ea_nil)) fun H1 _ Q q => ⟨i, j, rfl, q H1 (Ex.refl H1)⟩
theorem ev_mx2 {σ : L2.St} {H : Hp} {ta tb : TE} {i j : Int} (ha : Ev ta σ H (.int i)) (hb : Ev tb σ H (.int j)) : Ev (tCB (fun xs H Q => ∃ i j, xs = [.int i, .int j] ∧ Q (.int (if j > i then j else i)) H) (tCons ta (tCons tb tNil))) σ H (.int (mx i j)) := ev_cb (ea_cons ha (ea_cons hb ea_nil)) fun H1 _ Q q => ⟨i, j, rfl, q H1 (Ex.refl H1)⟩
/-- calls, by their readings -/
theorem eu_call {σ : L2.St} {H : Hp} {sp : Sp} {dvs vs xs : List V} {E : XK} {ta : TA} (h : EvA ta σ H vs) (hs : ∀ H1, Ex H H1 → ∀ Q : VK, RetU xs H1 Q → ∀ E : XK, sp (vs ++ dvs) H1 Q E) : EvU (tCall sp dvs E ta) σ H xs := fun H1 e Q q =>
  h H1 e _ fun H2 e2 => hs H2 (e.trans e2) Q (fun p H3 hp e3 h3 => q p H3 (fresh_back e2 hp) (e2.trans e3) h3) E
end Hs
namespace Hs
open PySem PySem.Spec PyProof.Rows L2 Evl
/-! ### min of a tuple of numbers -/
def rMinT (K : PySem.W.Frag) : List V → Hp → VK → Prop := fun vs H Q => ∃ (a : Addr) (ns : List Int), vs = [V.ref a] ∧ SqT K H a (ns.map V.int) ∧ 0 < ns.length ∧ ∀ m, m ∈ ns → (∀ y, y ∈ ns → m ≤ y) → Q (.int m) H
theorem minOf_mem : ∀ (xs : List Int) (x : Int), PySem.W.minOf x xs ∈ x :: xs ∧ ∀ y ∈ x :: xs, PySem.W.minOf x xs ≤ y := by
  intro xs
  induction xs with
  | nil =>
    intro x
    exact ⟨List.mem_singleton.mpr rfl, fun y hy => by rw [List.mem_singleton.mp hy]; exact Int.le_refl _⟩
  | cons z zs ih =>
    intro x
    have e : PySem.W.minOf x (z :: zs) = PySem.W.minOf (if decide (z < x) = true then z else x) zs := rfl
    obtain ⟨h1, h2⟩ := ih (if decide (z < x) = true then z else x)
    rw [e]
    generalize PySem.W.minOf (if decide (z < x) = true then z else x) zs = m at h1 h2 ⊢
    have h3 := h2 _ (List.mem_cons_self ..)
    refine ⟨?_, fun y hy => ?_⟩
    · rcases List.mem_cons.mp h1 with q | q
      · rw [q]
        split
        · exact List.mem_cons_of_mem _ (List.mem_cons_self ..)
        · exact List.mem_cons_self ..
      · exact List.mem_cons_of_mem _ (List.mem_cons_of_mem _ q)
    · have h4 : m ≤ x ∧ m ≤ z := by
        split at h3
        · rename_i q
          have := of_decide_eq_true q
          omega
        · rename_i q
          have : ¬ z < x := fun w => q (decide_eq_true w)
          omega
      rcases List.mem_cons.mp hy with q | q
      · rw [q]
        exact h4.1
      · rcases List.mem_cons.mp q with q | q
        · rw [q]
          exact h4.2
        · exact h2 y (List.mem_cons_of_mem _ q)
theorem hold_ints {h : Heap} : ∀ {ns : List Int} {its : List Value}, Vals (ns.map V.int) its → PySem.W.HoldAll h its ns
  | [], _, r => by
    cases r
    exact .nil
  | n :: ns, _, r => by
    cases r with
    | cons r rr =>
      obtain ⟨t, rfl⟩ := r
      exact .cons (PySem.W.holds_int n t) (hold_ints rr)
theorem cr_minT {X : Cx} {k : Nat} (hc : X.calm = true) (hr : Room k X.A) : CallR X (.builtin "min") (rMinT X.K) := by
  intro pins s σ H vs us Q I r h
  obtain ⟨a, ns, rfl, hs, hne, q⟩ := h
  obtain ⟨its, rv, hl, _⟩ := I.tuple hs
  rw [Vals.ref1 r]
  cases ns with
  | nil => cases hne
  | cons x xs =>
    refine PySem.W.min_tuple_datum (x := x) (xs := xs) (I.ok.hd hc) (show s.heap.IsTuple a its.toArray from hl) (by simpa using hold_ints rv) ?_ fun i v h' tk hv hh hk => ?_
    · have := hr.un
      show X.A.units + 1 + 0 < _
      omega
    · obtain ⟨t, rfl⟩ := PySem.W.int_of_holds hh
      obtain ⟨m1, m2⟩ := minOf_mem xs x
      exact ⟨.int _, H, I.kept hk, ⟨_, rfl⟩, q _ m1 m2⟩
theorem rc_minT {K : PySem.W.Frag} {H : Hp} {a : Addr} {ns : List Int} (h : SqT K H a (ns.map V.int)) (hn : 0 < ns.length) : ∃ m, m ∈ ns ∧ (∀ y, y ∈ ns → m ≤ y) ∧ RC (rMinT K) [.ref a] H (.int m) := by
  cases ns with
  | nil => cases hn
  | cons x xs =>
    obtain ⟨m1, m2⟩ := minOf_mem xs x
    refine ⟨_, m1, m2, fun H1 e Q q => ⟨a, _, rfl, ex_t e h, hn, fun m h1 h2 => ?_⟩⟩
    have e : m = PySem.W.minOf x xs := Int.le_antisymm (h2 _ m1) (m2 _ h1)
    rw [e]
    exact q H1 (Ex.refl H1)
end Hs
namespace Hs
open PySem PySem.Spec PyProof.Rows L2 Evl
def spCross (K : PySem.W.Frag) (n : Nat) : Sp := fun vs H Q _ => ∃ p q r x y z, vs = [.ref p, .ref q, .ref r] ∧ Pl K n H p x ∧ Pl K n H q y ∧ Pl K n H r z ∧ RetV (.int (cross x y z)) H Q
def spSide (K : PySem.W.Frag) (n : Nat) : Sp := fun vs H Q _ => ∃ p q r x y z, vs = [.ref p, .ref q, .ref r] ∧ Pl K n H p x ∧ Pl K n H q y ∧ Pl K n H r z ∧ RetV (.int (sgn (cross x y z))) H Q
def spBox (K : PySem.W.Frag) (n : Nat) : Sp := fun vs H Q _ => ∃ p x y, vs = [.ref p] ∧ Pc K n H p x y ∧ RetU (blV (boxOf x y)) H Q
def spHts (K : PySem.W.Frag) (n : Nat) : Sp := fun vs H Q _ => ∃ p q b x, vs = [.ref p, .ref q] ∧ Bl K n H p b ∧ Pl K n H q x ∧ RetU ((hts b x).map V.int) H Q
def spPhts (K : PySem.W.Frag) (n : Nat) : Sp := fun vs H Q _ => ∃ p q a b x, vs = [.ref p, .ref q] ∧ Pc K n H p a b ∧ Pl K n H q x ∧ RetU ((phts a b x).map V.int) H Q
/-- whether x is a point of the piece from a to b -/
def OnP (a b x : Pt) : Prop := cross a b x = 0 ∧ mn a.1 b.1 ≤ x.1 ∧ x.1 ≤ mx a.1 b.1 ∧ mn a.2 b.2 ≤ x.2 ∧ x.2 ≤ mx a.2 b.2
instance (a b x : Pt) : Decidable (OnP a b x) := by
  unfold OnP
  infer_instance
theorem cmul {n : Nat} {x y z u : Int} (hn : n ≤ 10000) (h1 : Bd n x) (h2 : Bd n y) (h3 : Bd n z) (h4 : Bd n u) : CMulW (x - y) (z - u) := Bd.cmul (h1.sub h2) (h3.sub h4) (by omega)
section
variable {P : Program} {w : World} {K : PySem.W.Frag} {mg : Str → Option Value} {base : Heap} {f : Addr} {fd : FuncData} {n : Nat}
abbrev sLean : Stmt := top 14
theorem scLean : FnScope ["one", "other", "place", "across", "up"] ["one", "other", "place"] (defScope sLean) := ⟨rfl, rfl, rfl, by decide +kernel, rfl, by decide +kernel, by decide +kernel⟩
theorem ok_lean (F : FnP K "lean" sLean f fd) (hn : n ≤ 10000) : FnOk P w K mg base CX0 1 f fd ["one", "other", "place"] (spCross K n) := by
  have nd := scLean.nd
  refine F.ok scLean (fun vs H Q E h => ?_) (fun cdv A outer s H vs Q E hr h => ⟨_, PSs.nox (pss_cons (ps_set (i := 3) nd rfl (.inl rfl) (pe_op op_sub (pe_ix (r := rIxT K) ix_tup (pv 1) pe_int (fun _ _ => rfl)) (pe_ix (r := rIxT K) ix_tup (pv 0) pe_int (fun _ _ => rfl))))
  (pss_cons (ps_set (i := 4) nd rfl (.inl rfl) (pe_op op_sub (pe_ix (r := rIxT K) ix_tup (pv 1) pe_int (fun _ _ => rfl)) (pe_ix (r := rIxT K) ix_tup (pv 0) pe_int (fun _ _ => rfl))))
  (pss_one (ps_ret (pe_op op_sub (pe_op op_mulW (pv 3) (pe_op op_sub (pe_ix (r := rIxT K) ix_tup (pv 2) pe_int (fun _ _ => rfl)) (pe_ix (r := rIxT K) ix_tup (pv 0) pe_int (fun _ _ => rfl)))) (pe_op op_mulW (pv 4) (pe_op op_sub (pe_ix (r := rIxT K) ix_tup (pv 2) pe_int (fun _ _ => rfl)) (pe_ix (r := rIxT K) ix_tup (pv 0) pe_int (fun _ _ => rfl))))))))), ?_⟩)
  · obtain ⟨p, q, r, x, y, z, rfl, _⟩ := h
    rfl
  · obtain ⟨p, q, r, x, y, z, rfl, hx, hy, hz, k⟩ := h
    refine q_asg (ev_op (ev_x1 rfl hy) (ev_x1 rfl hx) rv_I0) fun H1 e1 => ?_
    refine q_asg (ev_op (ev_x2 rfl (hy.ext e1)) (ev_x2 rfl (hx.ext e1)) rv_I0) fun H2 e2 => ?_
    have e12 := e1.trans e2
    exact s_ret (ev_op (ev_op (ev_var rfl) (ev_op (ev_x2 rfl (hz.ext e12)) (ev_x2 rfl (hx.ext e12)) rv_I0) (rv_I (cmul hn hy.2.1 hx.2.1 hz.2.2 hx.2.2))) (ev_op (ev_var rfl) (ev_op (ev_x1 rfl (hz.ext e12)) (ev_x1 rfl (hx.ext e12)) rv_I0) (rv_I (cmul hn hy.2.2 hx.2.2 hz.2.1 hx.2.1))) rv_I0) fun H3 e3 => k _ (e12.trans e3)
abbrev sBox : Stmt := top 15
theorem scBox : FnScope ["piece", "across", "up", "other_across", "other_up"] ["piece"] (defScope sBox) := ⟨rfl, rfl, rfl, by decide +kernel, rfl, by decide +kernel, by decide +kernel⟩
theorem ok_box (F : FnP K "box_around" sBox f fd) (g_min : mg "min" = none) (g_max : mg "max" = none) : FnOk P w K mg base CX0 1 f fd ["piece"] (spBox K n) := by
  have nd := scBox.nd
  refine F.ok scBox (fun vs H Q E h => ?_) (fun cdv A outer s H vs Q E hr h => ⟨_, PSs.nox (pss_cons (ps_asg (pv 0) (pg_tup rfl (pgs_cons (pg_tup rfl (pgs_cons (pg_name (i := 1) nd rfl (.inl rfl)) (pgs_cons (pg_name (i := 2) nd rfl (.inl rfl)) pgs_nil))) (pgs_cons (pg_tup rfl (pgs_cons (pg_name (i := 3) nd rfl (.inl rfl)) (pgs_cons (pg_name (i := 4) nd rfl (.inl rfl)) pgs_nil))) pgs_nil))))
  (pss_one (ps_ret (pe_tup (pa_cons (pe_callB (call_min2 rfl) (by rfl) g_min (by decide +kernel) (pa_cons (pv 1) (pa_cons (pv 3) pa_nil))) (pa_cons (pe_callB (call_min2 rfl) (by rfl) g_min (by decide +kernel) (pa_cons (pv 2) (pa_cons (pv 4) pa_nil))) (pa_cons (pe_callB (call_max2 rfl) (by rfl) g_max (by decide +kernel) (pa_cons (pv 1) (pa_cons (pv 3) pa_nil))) (pa_cons (pe_callB (call_max2 rfl) (by rfl) g_max (by decide +kernel) (pa_cons (pv 2) (pa_cons (pv 4) pa_nil))) pa_nil)))))))), ?_⟩)
  · obtain ⟨p, x, y, rfl, _⟩ := h
    rfl
  · obtain ⟨p, x, y, rfl, ⟨a, b, hp, hx, hy⟩, k⟩ := h
    refine ⟨_, rfl, p, _, rfl, hp, rfl, _, _, rfl, ⟨a, _, rfl, hx.1, rfl, _, _, rfl, _, _, rfl, rfl, _, _, rfl, b, _, rfl, hy.1, rfl, _, _, rfl, _, _, rfl, rfl, rfl, ?_⟩⟩
    exact s_retU (eu_tup (ea_cons (ev_min2 (ev_var rfl) (ev_var rfl)) (ea_cons (ev_min2 (ev_var rfl) (ev_var rfl)) (ea_cons (ev_mx2 (ev_var rfl) (ev_var rfl)) (ea_cons (ev_mx2 (ev_var rfl) (ev_var rfl)) ea_nil)))) (by simp)) fun p H3 hp e3 h3 => k p H3 hp e3 h3
abbrev sHts : Stmt := top 16
theorem scHts : FnScope ["block", "place", "left", "low", "right", "high", "across", "up"] ["block", "place"] (defScope sHts) := ⟨rfl, rfl, rfl, by decide +kernel, rfl, by decide +kernel, by decide +kernel⟩
theorem ok_hts (F : FnP K "block_heights" sHts f fd) : FnOk P w K mg base CX0 1 f fd ["block", "place"] (spHts K n) := by
  have nd := scHts.nd
  refine F.ok scHts (fun vs H Q E h => ?_) (fun cdv A outer s H vs Q E hr h => ⟨_, PSs.nox (pss_cons (ps_asg (pv 0) (pg_tup rfl (pgs_cons (pg_name (i := 2) nd rfl (.inl rfl)) (pgs_cons (pg_name (i := 3) nd rfl (.inl rfl)) (pgs_cons (pg_name (i := 4) nd rfl (.inl rfl)) (pgs_cons (pg_name (i := 5) nd rfl (.inl rfl)) pgs_nil))))))
  (pss_cons (ps_asg (pv 1) (pg_tup rfl (pgs_cons (pg_name (i := 6) nd rfl (.inl rfl)) (pgs_cons (pg_name (i := 7) nd rfl (.inl rfl)) pgs_nil))))
  (pss_one (ps_ret (pe_tup (pa_cons (pe_op op_sub (pv 6) (pv 2)) (pa_cons (pe_op op_sub (pv 4) (pv 6)) (pa_cons (pe_op op_sub (pv 7) (pv 3)) (pa_cons (pe_op op_sub (pv 5) (pv 7)) pa_nil))))))))), ?_⟩)
  · obtain ⟨p, q, b, x, rfl, _⟩ := h
    rfl
  · obtain ⟨p, q, b, x, rfl, hb, hx, k⟩ := h
    refine ⟨_, rfl, p, _, rfl, hb.1, rfl, _, _, rfl, _, _, rfl, _, _, rfl, _, _, rfl, rfl, _, rfl, q, _, rfl, hx.1, rfl, _, _, rfl, _, _, rfl, rfl, ?_⟩
    exact s_retU (eu_tup (ea_cons (ev_op (ev_var rfl) (ev_var rfl) rv_I0) (ea_cons (ev_op (ev_var rfl) (ev_var rfl) rv_I0) (ea_cons (ev_op (ev_var rfl) (ev_var rfl) rv_I0) (ea_cons (ev_op (ev_var rfl) (ev_var rfl) rv_I0) ea_nil)))) (by simp)) fun p H3 hp e3 h3 => k p H3 hp e3 h3
end
end Hs
namespace Hs
open PySem PySem.Spec PyProof.Rows L2 Evl
section
variable {P : Program} {w : World} {K : PySem.W.Frag} {mg : Str → Option Value} {base : Heap} {f : Addr} {fd : FuncData} {n : Nat}
abbrev sPhts : Stmt := top 17
theorem scPhts : FnScope ["piece", "place", "worth"] ["piece", "place"] (defScope sPhts) := ⟨rfl, rfl, rfl, by decide +kernel, rfl, by decide +kernel, by decide +kernel⟩
theorem ok_phts (F : FnP K "piece_heights" sPhts f fd) (O_lean : Own P w K mg base 1 "lean" ["one", "other", "place"] (spCross K n)) (O_box_around : Own P w K mg base 1 "box_around" ["piece"] (spBox K n)) (O_block_heights : Own P w K mg base 1 "block_heights" ["block", "place"] (spHts K n)) :
    FnOk P w K mg base CX0 2 f fd ["piece", "place"] (spPhts K n) := by
  have nd := scPhts.nd
  refine F.ok scPhts (fun vs H Q E h => ?_) (fun cdv A outer s H vs Q E hr h => ⟨_, PSs.nox (pss_cons (ps_set (i := 2) nd rfl (.inl rfl) (Hs.pe_own O_lean hr (by first | decide | omega) (by rfl) (pa_cons (pe_ix (r := rIxT K) ix_tup (pv 0) pe_int (fun _ _ => rfl)) (pa_cons (pe_ix (r := rIxT K) ix_tup (pv 0) pe_int (fun _ _ => rfl)) (pa_cons (pv 1) pa_nil)))))
  (pss_one (ps_ret (pe_op (r := rCatT K) op_catT (pe_tup (pa_cons (pv 2) (pa_cons (pe_un un_neg (pv 2)) pa_nil))) (Hs.pe_own O_block_heights hr (by first | decide | omega) (by rfl) (pa_cons (Hs.pe_own O_box_around hr (by first | decide | omega) (by rfl) (pa_cons (pv 0) pa_nil)) (pa_cons (pv 1) pa_nil))))))), ?_⟩)
  · obtain ⟨p, q, a, b, x, rfl, _⟩ := h
    rfl
  · obtain ⟨p, q, a, b, x, rfl, hp, hx, k⟩ := h
    obtain ⟨pa, pb, hp1, ha, hb⟩ := id hp
    refine q_asg (v := .int (cross a b x)) (ev_call (ea_cons (ev_ixt (xs := [.ref pa, .ref pb]) rfl hp1 rfl) (ea_cons (ev_ixt (xs := [.ref pa, .ref pb]) rfl hp1 rfl) (ea_cons (ev_var rfl) ea_nil))) fun H1 e1 Q' q' E' => ⟨pa, pb, q, a, b, x, rfl, ha.ext e1, hb.ext e1, hx.ext e1, q'⟩) fun H1 e1 => ?_
    refine ⟨_, rfl, _, rfl, _, rfl, sz_of (by simp), fun t1 ht1 => ?_⟩
    have x1 := e1.trans (Ex.new (o := .tup [V.int (cross a b x), .int (-cross a b x)]) ht1)
    refine ⟨_, rfl, p, a, b, rfl, hp.ext x1, fun t2 H2 nt2 e2 ht2 => ⟨_, rfl, t2, q, boxOf a b, x, rfl, ⟨st_of ht2, box_bd ha.2 hb.2⟩, hx.ext (x1.trans e2), fun t3 H3 nt3 e3 ht3 => ?_⟩⟩
    have h3 := e3 _ _ (e2 _ _ (upd_same (H := H1) (a := t1) (o := .tup [V.int (cross a b x), .int (-cross a b x)])))
    refine ⟨t1, t3, _, _, rfl, rfl, st_of h3, st_of ht3, by simp, sz_of (by simp [hts]), fun z => by simp [hts] at z, fun _ t4 ht4 => ?_⟩
    have x3 := (x1.trans e2).trans e3
    exact k t4 _ (fresh_back x3 ht4) (x3.trans (Ex.new ht4)) upd_same
end
end Hs
namespace Hs
open PySem PySem.Spec PyProof.Rows L2 Evl
section
variable {P : Program} {w : World} {K : PySem.W.Frag} {mg : Str → Option Value} {base : Heap} {f : Addr} {fd : FuncData} {n : Nat}
abbrev sCross : Stmt := top 30
theorem scCross : FnScope ["_law_a", "_law_b", "_law_c"] ["_law_a", "_law_b", "_law_c"] (defScope sCross) := ⟨rfl, rfl, rfl, by decide +kernel, rfl, by decide +kernel, by decide +kernel⟩
theorem ok_cross (F : FnP K "_law_cross" sCross f fd) (hn : n ≤ 10000) : FnOk P w K mg base CX0 1 f fd ["_law_a", "_law_b", "_law_c"] (spCross K n) := by
  have nd := scCross.nd
  refine F.ok scCross (fun vs H Q E h => ?_) (fun cdv A outer s H vs Q E hr h => ⟨_, PSs.nox (pss_one (ps_ret (pe_op op_sub (pe_op op_mulW (pe_op op_sub (pe_ix (r := rIxT K) ix_tup (pv 1) pe_int (fun _ _ => rfl)) (pe_ix (r := rIxT K) ix_tup (pv 0) pe_int (fun _ _ => rfl))) (pe_op op_sub (pe_ix (r := rIxT K) ix_tup (pv 2) pe_int (fun _ _ => rfl)) (pe_ix (r := rIxT K) ix_tup (pv 0) pe_int (fun _ _ => rfl)))) (pe_op op_mulW (pe_op op_sub (pe_ix (r := rIxT K) ix_tup (pv 1) pe_int (fun _ _ => rfl)) (pe_ix (r := rIxT K) ix_tup (pv 0) pe_int (fun _ _ => rfl))) (pe_op op_sub (pe_ix (r := rIxT K) ix_tup (pv 2) pe_int (fun _ _ => rfl)) (pe_ix (r := rIxT K) ix_tup (pv 0) pe_int (fun _ _ => rfl))))))), ?_⟩)
  · obtain ⟨p, q, r, x, y, z, rfl, _⟩ := h
    rfl
  · obtain ⟨p, q, r, x, y, z, rfl, hx, hy, hz, k⟩ := h
    exact s_ret (ev_op (ev_op (ev_op (ev_x1 rfl hy) (ev_x1 rfl hx) rv_I0) (ev_op (ev_x2 rfl hz) (ev_x2 rfl hx) rv_I0) (rv_I (cmul hn hy.2.1 hx.2.1 hz.2.2 hx.2.2))) (ev_op (ev_op (ev_x2 rfl hy) (ev_x2 rfl hx) rv_I0) (ev_op (ev_x1 rfl hz) (ev_x1 rfl hx) rv_I0) (rv_I (cmul hn hy.2.2 hx.2.2 hz.2.1 hx.2.1))) rv_I0) fun H3 e3 => k _ e3
abbrev sTouch : Stmt := top 31
theorem scTouch : FnScope ["_law_a", "_law_b", "_law_c"] ["_law_a", "_law_b", "_law_c"] (defScope sTouch) := ⟨rfl, rfl, rfl, by decide +kernel, rfl, by decide +kernel, by decide +kernel⟩
def spTouch (K : PySem.W.Frag) (n : Nat) : Sp := fun vs H Q _ => ∃ p q r x y z, vs = [.ref p, .ref q, .ref r] ∧ Pl K n H p x ∧ Pl K n H q y ∧ Pl K n H r z ∧ RetV (.bl (decide (OnP x y z))) H Q
theorem ev_chain {σ : L2.St} {H : Hp} {ta tb tc : TE} {i j k : Int} (ha : Ev ta σ H (.int i)) (hb : Ev tb σ H (.int j)) (hc : Ev tc σ H (.int k)) : Ev (tChain (rI0 fun i j => .bl (decide (i ≤ j))) (rI0 fun i j => .bl (decide (i ≤ j))) ta tb tc) σ H (.bl (decide (i ≤ j) && decide (j ≤ k))) := fun H1 e Q q => ha H1 e _ fun H2 e2 => hb H2 (e.trans e2) _ fun H3 e3 => ⟨i, j, rfl, rfl, decide (i ≤ j), rfl, by
  have e13 := e2.trans e3
  cases h : decide (i ≤ j) with
  | true =>
    rw [h, Bool.true_and] at q
    exact hc H3 (e.trans e13) _ fun H4 e4 => ⟨j, k, rfl, rfl, q H4 (e13.trans e4)⟩
  | false =>
    rw [h, Bool.false_and] at q
    exact q H3 e13⟩
theorem ok_touch (F : FnP K "_law_touch" sTouch f fd) (O__law_cross : Own P w K mg base 1 "_law_cross" ["_law_a", "_law_b", "_law_c"] (spCross K n)) (g_min : mg "min" = none) (g_max : mg "max" = none) : FnOk P w K mg base CX0 2 f fd ["_law_a", "_law_b", "_law_c"] (spTouch K n) := by
  have nd := scTouch.nd
  refine F.ok scTouch (fun vs H Q E h => ?_) (fun cdv A outer s H vs Q E hr h => ⟨_, PSs.nox (pss_cons (ps_if (pt_cmpR op_ne (Hs.pe_own O__law_cross hr (by first | decide | omega) (by rfl) (pa_cons (pv 0) (pa_cons (pv 1) (pa_cons (pv 2) pa_nil)))) pe_int (nomark _)) (pss_one (ps_ret pe_bl)) pss_nil)
  (pss_one (ps_ret (pe_and (pe_chain op_le op_le (pe_callB (call_min2 rfl) (by rfl) g_min (by decide +kernel) (pa_cons (pe_ix (r := rIxT K) ix_tup (pv 0) pe_int (fun _ _ => rfl)) (pa_cons (pe_ix (r := rIxT K) ix_tup (pv 1) pe_int (fun _ _ => rfl)) pa_nil))) (pe_ix (r := rIxT K) ix_tup (pv 2) pe_int (fun _ _ => rfl)) (pe_callB (call_max2 rfl) (by rfl) g_max (by decide +kernel) (pa_cons (pe_ix (r := rIxT K) ix_tup (pv 0) pe_int (fun _ _ => rfl)) (pa_cons (pe_ix (r := rIxT K) ix_tup (pv 1) pe_int (fun _ _ => rfl)) pa_nil)))) (pe_one (pe_chain op_le op_le (pe_callB (call_min2 rfl) (by rfl) g_min (by decide +kernel) (pa_cons (pe_ix (r := rIxT K) ix_tup (pv 0) pe_int (fun _ _ => rfl)) (pa_cons (pe_ix (r := rIxT K) ix_tup (pv 1) pe_int (fun _ _ => rfl)) pa_nil))) (pe_ix (r := rIxT K) ix_tup (pv 2) pe_int (fun _ _ => rfl)) (pe_callB (call_max2 rfl) (by rfl) g_max (by decide +kernel) (pa_cons (pe_ix (r := rIxT K) ix_tup (pv 0) pe_int (fun _ _ => rfl)) (pa_cons (pe_ix (r := rIxT K) ix_tup (pv 1) pe_int (fun _ _ => rfl)) pa_nil))))))))), ?_⟩)
  · obtain ⟨p, q, r, x, y, z, rfl, _⟩ := h
    rfl
  · obtain ⟨p, q, r, x, y, z, rfl, hx, hy, hz, k⟩ := h
    refine q_when (et_test (ev_op (ev_call (ea_cons (ev_var rfl) (ea_cons (ev_var rfl) (ea_cons (ev_var rfl) ea_nil))) fun H1 e1 Q' q' E' => ⟨p, q, r, x, y, z, rfl, hx.ext e1, hy.ext e1, hz.ext e1, q'⟩) ev_c (rv_ne rfl))) (fun ht H1 e1 => ?_) (fun ht H1 e1 => ?_)
    · have hc : ¬ cross x y z = 0 := fun e => by
        rw [e] at ht
        exact Bool.noConfusion ht
      rw [decide_eq_false (fun o : OnP x y z => hc o.1)] at k
      exact s_ret ev_c fun H2 e2 => k _ (e1.trans e2)
    · have hc : cross x y z = 0 := Decidable.byContradiction fun e => by
        rw [decide_eq_false (fun w => e (by injection w))] at ht
        exact Bool.noConfusion ht
      refine s_ret (ev_is (ev_andV (ev_chain (ev_min2 (ev_x1 rfl (hx.ext e1)) (ev_x1 rfl (hy.ext e1))) (ev_x1 rfl (hz.ext e1)) (ev_mx2 (ev_x1 rfl (hx.ext e1)) (ev_x1 rfl (hy.ext e1)))) (fun _ => ev_chain (ev_min2 (ev_x2 rfl (hx.ext e1)) (ev_x2 rfl (hy.ext e1))) (ev_x2 rfl (hz.ext e1)) (ev_mx2 (ev_x2 rfl (hx.ext e1)) (ev_x2 rfl (hy.ext e1))))) ?_) fun H2 e2 => k _ (e1.trans e2)
      congr 1
      rw [Bool.eq_iff_iff]
      simp only [Bool.and_eq_true, decide_eq_true_eq, OnP, hc, true_and, and_assoc]
end
end Hs
namespace Hs
open PySem PySem.Spec PyProof.Rows L2 Evl
/-! ### what is drawn: a grid, places on it -/
theorem bag_ne {H : Hp} {b l p : Addr} {ns : List Int} {n : Nat} (B : BagAt H b l ns n) (hp : H p = none) : p ≠ b := fun z => by
  obtain ⟨i, y, s, c, h, _⟩ := B.ex
  rw [← z, hp] at h
  cases h
theorem bag_lst {H : Hp} {b l : Addr} {ns : List Int} {n : Nat} (B : BagAt H b l ns n) : ∃ xs, H b = some (.lst xs) := by
  obtain ⟨⟨i, z, s, c, h1, _⟩, _⟩ := B
  exact ⟨_, h1⟩
theorem bag_upd {H : Hp} {b l a : Addr} {ns : List Int} {n : Nat} {o : HO} (B : BagAt H b l ns n) (h1 : b ≠ a) (h2 : l ≠ a) : BagAt (upd H a o) b l ns n := by
  obtain ⟨⟨i, z, s, c, q1, q2, q3, q4, q5⟩, q6, q7⟩ := B
  exact ⟨⟨i, z, s, c, by rw [upd_ne h1]; exact q1, q2, q3, q4, q5⟩, by rw [upd_ne h2]; exact q6, q7⟩
theorem But.fresh {H H' : Hp} {b l p : Addr} {ns : List Int} {n : Nat} (k : But H H' b) (B : BagAt H' b l ns n) (hp : H' p = none) : H p = none := by
  cases h : H p with
  | none => rfl
  | some o =>
    have := k p o h (bag_ne B hp)
    rw [hp] at this
    cases this
theorem But.tup {H H' : Hp} {b l p : Addr} {ns : List Int} {n : Nat} {xs : List V} (k : But H H' b) (B : BagAt H b l ns n) (h : H p = some (.tup xs)) : H' p = some (.tup xs) := by
  obtain ⟨ys, hb⟩ := bag_lst B
  refine k _ _ h fun z => ?_
  rw [z, hb] at h
  cases h
def Grid (w x y : Int) : Prop := (1 ≤ w ∧ w ≤ 60) ∧ x.natAbs + w.natAbs ≤ 1000000 ∧ y.natAbs + w.natAbs ≤ 1000000
def spGrid : Sp := fun vs H Q _ => ∃ (b l : Addr) (ns : List Int) (n : Nat), vs = [.ref b] ∧ BagAt H b l ns n ∧ n < 900000 ∧ ∀ (p : Addr) (w x y : Int) (H' : Hp), Grid w x y → H p = none → H' p = some (.tup [.int w, .int x, .int y]) → BagAt H' b l ns (n + 3) → But H H' b → Q (.ref p) H'
def Near (z : Pt) : Prop := z.1.natAbs ≤ 1000000 ∧ z.2.natAbs ≤ 1000000
def spSpot : Sp := fun vs H Q _ => ∃ (b l g : Addr) (ns : List Int) (n : Nat) (w x y : Int), vs = [.ref b, .ref g] ∧ BagAt H b l ns n ∧ n < 900000 ∧ H g = some (.tup [.int w, .int x, .int y]) ∧ Grid w x y ∧
  ∀ (p : Addr) (z : Pt) (H' : Hp), Near z → H p = none → H' p = some (.tup (prV z)) → BagAt H' b l ns (n + 2) → But H H' b → Q (.ref p) H'
section
variable {P : Program} {w : World} {K : PySem.W.Frag} {mg : Str → Option Value} {base : Heap} {f : Addr} {fd : FuncData}
abbrev sGrid : Stmt := top 35
theorem scGrid : FnScope ["_law_bag_here", "_law_way"] ["_law_bag_here"] (defScope sGrid) := ⟨rfl, rfl, rfl, by decide +kernel, rfl, by decide +kernel, by decide +kernel⟩
theorem ok_grid (F : FnP K "_law_grid" sGrid f fd) (O__law_pull : Own P w K mg base 1 "_law_pull" ["_law_bag_here", "_law_many"] spPull) : FnOk P w K mg base CX0 2 f fd ["_law_bag_here"] spGrid := by
  have nd := scGrid.nd
  refine F.ok scGrid (fun vs H Q E h => ?_) (fun cdv A outer s H vs Q E hr h => ⟨_, PSs.nox (pss_cons (ps_set (i := 1) nd rfl (.inl rfl) (Hs.pe_own O__law_pull hr (by first | decide | omega) (by rfl) (pa_cons (pv 0) (pa_cons pe_int pa_nil))))
  (pss_cons (ps_if (pt_cmpR op_lt (pv 1) pe_int (nomark _)) (pss_one (ps_ret (pe_tup (pa_cons pe_int (pa_cons pe_int (pa_cons pe_int pa_nil)))))) pss_nil)
  (pss_cons (ps_if (pt_cmpR op_eq (pv 1) pe_int (nomark _)) (pss_one (ps_ret (pe_tup (pa_cons (pe_op op_add pe_int (Hs.pe_own O__law_pull hr (by first | decide | omega) (by rfl) (pa_cons (pv 0) (pa_cons pe_int pa_nil)))) (pa_cons pe_int (pa_cons pe_int pa_nil)))))) pss_nil)
  (pss_one (ps_ret (pe_tup (pa_cons pe_int (pa_cons (pe_op op_mulW (pe_op op_sub (pe_op op_pow pe_int pe_int) pe_int) (pe_op op_sub (pe_op op_mulW pe_int (Hs.pe_own O__law_pull hr (by first | decide | omega) (by rfl) (pa_cons (pv 0) (pa_cons pe_int pa_nil)))) pe_int)) (pa_cons (pe_op op_mulW (pe_op op_sub (pe_op op_pow pe_int pe_int) pe_int) (pe_op op_sub (Hs.pe_own O__law_pull hr (by first | decide | omega) (by rfl) (pa_cons (pv 0) (pa_cons pe_int pa_nil))) pe_int)) pa_nil))))))))), ?_⟩)
  · obtain ⟨b, l, ns, n, rfl, _⟩ := h
    rfl
  · obtain ⟨b, l, ns, n, rfl, B, hn, k⟩ := h
    refine ⟨_, rfl, b, l, ns, n, 6, rfl, B, by omega, by decide, by decide, fun v H1 v0 v1 B1 b1 => ?_⟩
    refine q_when (et_test (ev_op (ev_var rfl) ev_c rv_I0)) (fun ht H2 e2 => ?_) (fun ht H2 e2 => ?_)
    · exact s_retU (eu_tup (ea_cons ev_c (ea_cons ev_c (ea_cons ev_c ea_nil))) (by simp)) fun p H3 hp e3 h3 => k p 4 0 0 H3 ⟨by decide, by decide, by decide⟩ (b1.fresh B1 (fresh_back e2 hp)) h3 (B1.ext (e2.trans e3) (by omega)) (b1.ex (e2.trans e3))
    · refine q_when (et_test (ev_op (ev_var rfl) ev_c (rv_eq rfl))) (fun ht H3 e3 => ?_) (fun ht H3 e3 => ?_)
      · have e23 := e2.trans e3
        refine ⟨_, rfl, b, l, ns, n + 1, 60, rfl, B1.ext e23 (Nat.le_refl _), by omega, by decide, by decide, fun v2 H4 v20 v21 B4 b4 => ⟨_, _, rfl, rfl, sz_of (by simp), fun p hp => ?_⟩⟩
        have b14 := (b1.ex e23).trans b4
        exact k p _ _ _ _ ⟨⟨by omega, by omega⟩, by omega, by omega⟩ (b14.fresh B4 hp) upd_same (B4.ext (Ex.new hp) (by omega)) (b14.ex (Ex.new hp))
      · have e23 := e2.trans e3
        refine ⟨_, _, rfl, rfl, ⟨by decide, by decide, by decide⟩, _, _, rfl, rfl, _, rfl, b, l, ns, n + 1, 2, rfl, B1.ext e23 (Nat.le_refl _), by omega, by decide, by decide, fun v2 H4 v20 v21 B4 b4 => ⟨_, _, rfl, rfl, mul64 (by decide) (by omega), _, _, rfl, rfl, _, _, rfl, rfl, mul64 (by decide) (by omega), ?_⟩⟩
        refine ⟨_, _, rfl, rfl, ⟨by decide, by decide, by decide⟩, _, _, rfl, rfl, _, rfl, b, l, ns, n + 2, 3, rfl, B4, by omega, by decide, by decide, fun v3 H5 v30 v31 B5 b5 => ⟨_, _, rfl, rfl, _, _, rfl, rfl, mul64 (by decide) (by omega), sz_of (by simp), fun p hp => ?_⟩⟩
        have b15 := ((b1.ex e23).trans b4).trans b5
        have t6 : (10 : Int) ^ Int.toNat 6 = 1000000 := by decide
        exact k p _ _ _ _ ⟨⟨by omega, by omega⟩, by rw [t6]; omega, by rw [t6]; omega⟩ (b15.fresh B5 hp) upd_same (B5.ext (Ex.new hp) (by omega)) (b15.ex (Ex.new hp))
abbrev sSpot : Stmt := top 36
theorem scSpot : FnScope ["_law_bag_here", "_law_grid_here", "_law_wide", "_law_across", "_law_north", "_law_first"] ["_law_bag_here", "_law_grid_here"] (defScope sSpot) := ⟨rfl, rfl, rfl, by decide +kernel, rfl, by decide +kernel, by decide +kernel⟩
theorem ok_spot (F : FnP K "_law_spot" sSpot f fd) (O__law_pull : Own P w K mg base 1 "_law_pull" ["_law_bag_here", "_law_many"] spPull) : FnOk P w K mg base CX0 2 f fd ["_law_bag_here", "_law_grid_here"] spSpot := by
  have nd := scSpot.nd
  refine F.ok scSpot (fun vs H Q E h => ?_) (fun cdv A outer s H vs Q E hr h => ⟨_, PSs.nox (pss_cons (ps_asg (pv 1) (pg_tup rfl (pgs_cons (pg_name (i := 2) nd rfl (.inl rfl)) (pgs_cons (pg_name (i := 3) nd rfl (.inl rfl)) (pgs_cons (pg_name (i := 4) nd rfl (.inl rfl)) pgs_nil)))))
  (pss_cons (ps_set (i := 5) nd rfl (.inl rfl) (pe_op op_sub (pe_op op_add (pv 3) (Hs.pe_own O__law_pull hr (by first | decide | omega) (by rfl) (pa_cons (pv 0) (pa_cons (pe_op op_add (pe_op op_mulW pe_int (pv 2)) pe_int) pa_nil)))) (pv 2)))
  (pss_one (ps_ret (pe_tup (pa_cons (pv 5) (pa_cons (pe_op op_sub (pe_op op_add (pv 4) (Hs.pe_own O__law_pull hr (by first | decide | omega) (by rfl) (pa_cons (pv 0) (pa_cons (pe_op op_add (pe_op op_mulW pe_int (pv 2)) pe_int) pa_nil)))) (pv 2)) pa_nil))))))), ?_⟩)
  · obtain ⟨b, l, g, ns, n, w, x, y, rfl, _⟩ := h
    rfl
  · obtain ⟨b, l, g, ns, n, w, x, y, rfl, B, hn, hg, G, k⟩ := h
    obtain ⟨⟨w0, w1⟩, gx, gy⟩ := G
    refine ⟨_, rfl, g, _, rfl, st_of hg, rfl, _, _, rfl, _, _, rfl, _, _, rfl, rfl, ?_⟩
    show tSeq _ _ _ [some (.ref b), some (.ref g), some (.int w), some (.int x), some (.int y), none] H
    refine ⟨_, rfl, _, rfl, _, rfl, _, _, rfl, rfl, mul64 (by decide) (by omega), _, _, rfl, rfl, b, l, ns, n, _, rfl, B, by omega, by omega, by omega, fun v H1 v0 v1 B1 b1 => ⟨_, _, rfl, rfl, _, rfl, _, _, rfl, rfl, ?_⟩⟩
    refine ⟨_, rfl, _, rfl, _, rfl, _, rfl, _, _, rfl, rfl, mul64 (by decide) (by omega), _, _, rfl, rfl, b, l, ns, n + 1, _, rfl, B1, by omega, by omega, by omega, fun v2 H2 v20 v21 B2 b2 => ⟨_, _, rfl, rfl, _, rfl, _, _, rfl, rfl, sz_of (by simp), fun p hp => ?_⟩⟩
    have b12 := b1.trans b2
    refine k p (x + v - w, y + v2 - w) _ ⟨?_, ?_⟩ (b12.fresh B2 hp) upd_same (B2.ext (Ex.new hp) (by omega)) (b12.ex (Ex.new hp))
    · show (x + v - w).natAbs ≤ _
      omega
    · show (y + v2 - w).natAbs ≤ _
      omega
end
/-- places that stand -/
def Pts (H : Hp) (ps : List Addr) (zs : List Pt) : Prop := ps.length = zs.length ∧ ∀ (i : Nat) (p : Addr) (z : Pt), ps[i]? = some p → zs[i]? = some z → H p = some (.tup (prV z)) ∧ Near z
theorem lc_spots {m j ib ig n : Nat} {vs : List Nat} {σ : L2.St} {H : Hp} {Q : VK} {b l g : Addr} {ns : List Int} {w x y : Int} {E : XK} (hw : ∀ v, wipe ((wipe σ vs).set j (some v)) vs = wipe σ vs) (h1 : ∀ v, ((wipe σ vs).set j (some v))[ib]? = some (some (.ref b))) (h2 : ∀ v, ((wipe σ vs).set j (some v))[ig]? = some (some (.ref g)))
    (B : BagAt H b l ns n) (hn : n + 2 * m < 900000) (hm : m ≤ 1000) (hg : H g = some (.tup [.int w, .int x, .int y])) (G : Grid w x y)
    (k : ∀ (Dl : Addr) (ps : List Addr) (zs : List Pt) (H' : Hp), H Dl = none → H' Dl = some (.lst (ps.map V.ref)) → ps.length = m → Pts H' ps zs → BagAt H' b l ns (n + 2 * m) → But H H' b → Q (.ref Dl) H') :
    tLc (iRng1 (tCons (tC (.int m)) tNil)) (gName j) tYes (tCall spSpot [] E (tCons (tVar ib) (tCons (tVar ig) tNil))) vs σ H Q := by
  refine ⟨m, rfl, by omega, by omega, fun Dl hD => ?_⟩
  have nDb := bag_ne B hD
  have nDl : Dl ≠ l := Ne.symm (ne_of_none B.ls hD)
  refine lc_range (lo := 0) (n := (m : Int).toNat) (fun i H' => BagAt H' b l ns (n + 2 * i) ∧ But H H' b ∧ ∃ (ps : List Addr) (zs : List Pt), H' Dl = some (.lst (ps.map V.ref)) ∧ ps.length = i ∧ Pts H' ps zs) ⟨B.ext (Ex.new hD) (by omega), But.of (Ex.new hD), [], [], upd_same, rfl, rfl, fun i p x h => by cases h⟩ (fun i H' hi p => ⟨hw _, ?_⟩) (fun H' p => ?_)
  · obtain ⟨Bi, bi, ps, zs, hDl, hlen, hLl, hL⟩ := p
    have hi2 : i < m := by omega
    refine ⟨_, h1 _, _, h2 _, b, l, g, ns, n + 2 * i, w, x, y, rfl, Bi, by omega, bi.tup B hg, G, fun p z H2 hz np hp B2 b2 => ?_⟩
    have hDl2 := b2 _ _ hDl nDb
    have keep : ∀ r us, H2 r = some (.tup us) → upd H2 Dl (.lst (ps.map V.ref ++ [.ref p])) r = some (.tup us) := fun r us h => by
      rw [upd_ne (ne_of h hDl2 (by intro z; cases z))]
      exact h
    refine ⟨_, hDl2, sz_lt (by rw [List.length_map]; omega), bag_upd (B2.ext (Ex.refl _) (by omega)) (Ne.symm nDb) (Ne.symm nDl), fun a o ha hb => ?_, ps ++ [p], zs ++ [z], by rw [upd_same, List.map_append] <;> rfl, by rw [List.length_append, hlen] <;> rfl, by rw [List.length_append, List.length_append, hLl] <;> rfl, fun j r u hr hu => ?_⟩
    · rw [upd_ne (ne_of_none ha hD)]
      exact b2 _ _ (bi _ _ ha hb) hb
    · by_cases hj : j < ps.length
      · rw [List.getElem?_append_left hj] at hr
        rw [List.getElem?_append_left (by omega)] at hu
        obtain ⟨q1, q2⟩ := hL j r u hr hu
        exact ⟨keep _ _ (b2.tup Bi q1), q2⟩
      · rw [List.getElem?_append_right (by omega)] at hr
        rw [List.getElem?_append_right (by omega)] at hu
        have e0 : j - ps.length = 0 := by
          have : j - ps.length < 1 := (List.getElem?_eq_some_iff.mp hr).1
          omega
        have e1 : j - zs.length = 0 := by omega
        rw [e0] at hr
        rw [e1] at hu
        cases hr
        cases hu
        exact ⟨keep _ _ hp, hz⟩
  · obtain ⟨Bi, bi, ps, zs, hDl, hlen, hP⟩ := p
    have em : ((m : Int).toNat) = m := by omega
    rw [em] at Bi hlen
    exact k Dl ps zs H' hD hDl hlen hP Bi bi
end Hs
namespace Hs
open PySem PySem.Spec PyProof.Rows L2 Evl
theorem q_ev {te : TE} {g : TG} {tz : TS} {D : Ends} {σ : L2.St} {H : Hp} (h : te σ H fun x H1 => g x σ H1 (tz D)) : tSeq (tAsg te g) tz D σ H := h
theorem s_ev {te : TE} {g : TG} {D : Ends} {σ : L2.St} {H : Hp} (h : te σ H fun x H1 => g x σ H1 D.nx) : tAsg te g D σ H := h
/-! ### comprehensions whose elements are new tuples -/
/-- new tuples, by their items -/
def Tups (H : Hp) (ps : List Addr) (us : List (List V)) : Prop := ps.length = us.length ∧ ∀ (i : Nat) (p : Addr) (u : List V), ps[i]? = some p → us[i]? = some u → H p = some (.tup u)
theorem Tups.ext {H H' : Hp} {ps : List Addr} {us : List (List V)} (h : Tups H ps us) (e : Ex H H') : Tups H' ps us := ⟨h.1, fun i p u hp hu => e _ _ (h.2 i p u hp hu)⟩
theorem Tups.snoc {H : Hp} {ps : List Addr} {us : List (List V)} {p : Addr} {u : List V} (h : Tups H ps us) (hp : H p = some (.tup u)) : Tups H (ps ++ [p]) (us ++ [u]) := by
  refine ⟨by rw [List.length_append, List.length_append, h.1] <;> rfl, fun j r v hr hv => ?_⟩
  have hl := h.1
  by_cases hj : j < ps.length
  · rw [List.getElem?_append_left hj] at hr
    rw [List.getElem?_append_left (by omega)] at hv
    exact h.2 j r v hr hv
  · rw [List.getElem?_append_right (by omega)] at hr
    rw [List.getElem?_append_right (by omega)] at hv
    have e0 : j - ps.length = 0 := by
      have : j - ps.length < 1 := (List.getElem?_eq_some_iff.mp hr).1
      omega
    have e1 : j - us.length = 0 := by omega
    rw [e0] at hr
    rw [e1] at hv
    cases hr
    cases hv
    exact hp
/-- a new list of new tuples -/
def EvLU (te : TE) (σ : L2.St) (H : Hp) (us : List (List V)) : Prop := ∀ H1, Ex H H1 → ∀ Q : VK, (∀ (p : Addr) (ps : List Addr) (H2 : Hp), H1 p = none → Ex H1 H2 → H2 p = some (.lst (ps.map V.ref)) → Tups H2 ps us → Q (.ref p) H2) → te σ H1 Q
/-- the turns so far -/
def Cu (H : Hp) (us : List (List V)) (Dl : Addr) (i : Nat) (H' : Hp) : Prop := H Dl = none ∧ Ex H H' ∧ ∃ ps : List Addr, H' Dl = some (.lst (ps.map V.ref)) ∧ Tups H' ps (us.take i)
theorem cu_turn {H H' : Hp} {us : List (List V)} {u : List V} {Dl : Addr} {i : Nat} {σ2 : L2.St} {te : TE} (p : Cu H us Dl i H') (hi : i < 50000) (hu : us[i]? = some u) (he : EvU te σ2 H u) :
    tYes σ2 H' fun b H3 => if b = true then te σ2 H3 fun y H4 => ∃ acc, H4 Dl = some (.lst acc) ∧ acc.length < sizeLine ∧ Cu H us Dl (i + 1) (upd H4 Dl (.lst (acc ++ [y]))) else Cu H us Dl (i + 1) H3 := by
  obtain ⟨p1, p2, ps, p3, p4⟩ := p
  show te σ2 H' fun y H4 => ∃ acc, H4 Dl = some (.lst acc) ∧ acc.length < sizeLine ∧ Cu H us Dl (i + 1) (upd H4 Dl (.lst (acc ++ [y])))
  refine he H' p2 _ fun q H4 hq e4 h4 => ⟨ps.map V.ref, e4 _ _ p3, sz_lt ?_, p1, Ex.mut (p2.trans e4) p1, ps ++ [q], by rw [upd_same, List.map_append] <;> rfl, ?_⟩
  · have := p4.1
    rw [List.length_map, this, List.length_take]
    omega
  · have e : us.take (i + 1) = us.take i ++ [u] := by rw [List.take_add_one, hu] <;> rfl
    rw [e]
    have h4D := e4 _ _ p3
    have keep : ∀ r v, H4 r = some (.tup v) → upd H4 Dl (.lst (ps.map V.ref ++ [.ref q])) r = some (.tup v) := fun r v h => by
      rw [upd_ne (ne_of h h4D (by intro z; cases z))]
      exact h
    exact Tups.snoc ⟨p4.1, fun j r v hr hv => keep _ _ (e4 _ _ (p4.2 j r v hr hv))⟩ (keep _ _ h4)
section
variable {K : PySem.W.Frag} {σ : L2.St} {H : Hp} {te : TE}
theorem elu_lcT {a : Addr} {xs : List V} {us : List (List V)} {tl : TE} {j : Nat} {vs : List Nat} (h : Ev tl σ H (.ref a)) (hx : SqT K H a xs) (hz : xs.length ≤ 40000) (hl : us.length = xs.length) (hw : ∀ x, wipe ((wipe σ vs).set j (some x)) vs = wipe σ vs)
    (he : ∀ (i : Nat) (x : V) (u : List V) H1, Ex H H1 → xs[i]? = some x → us[i]? = some u → EvU te ((wipe σ vs).set j (some x)) H1 u) :
    EvLU (tLc (iTup K tl) (gName j) tYes te vs) σ H us := fun H0 e Q q => h H0 e _ fun H1 e1 => ⟨a, rfl, ⟨xs, ex_t (e.trans e1) hx⟩, fun Dl hD =>
  lc_tup (xs := xs) (Cu H1 us Dl) ⟨hD, Ex.new hD, [], upd_same, rfl, fun i p u h => by cases h⟩ (fun i H' _ p => ex_t ((e.trans e1).trans p.2.1) hx) (fun i x H' hi p => by
      have hix := (List.getElem?_eq_some_iff.mp hi).1
      have hiu : i < us.length := by omega
      exact ⟨hw x, cu_turn p (by omega) (List.getElem?_eq_getElem hiu) (he i x _ H1 (e.trans e1) hi (List.getElem?_eq_getElem hiu))⟩)
    (fun H' p => by
      obtain ⟨p1, p2, ps, p3, p4⟩ := p
      rw [← hl, List.take_length] at p4
      exact q Dl ps H' (fresh_back e1 p1) (e1.trans p2) p3 p4)⟩
theorem elu_lcL {a : Addr} {xs : List V} {us : List (List V)} {tl : TE} {j : Nat} {vs : List Nat} (h : Ev tl σ H (.ref a)) (hx : SqL K H a xs) (hz : xs.length ≤ 40000) (hl : us.length = xs.length) (hw : ∀ x, wipe ((wipe σ vs).set j (some x)) vs = wipe σ vs)
    (he : ∀ (i : Nat) (x : V) (u : List V) H1, Ex H H1 → xs[i]? = some x → us[i]? = some u → EvU te ((wipe σ vs).set j (some x)) H1 u) :
    EvLU (tLc (iList K tl) (gName j) tYes te vs) σ H us := fun H0 e Q q => h H0 e _ fun H1 e1 => ⟨a, rfl, ⟨xs, ex_l (e.trans e1) hx⟩, fun Dl hD =>
  lc_list (xs := xs) (Cu H1 us Dl) ⟨hD, Ex.new hD, [], upd_same, rfl, fun i p u h => by cases h⟩ (fun i H' _ p => ex_l ((e.trans e1).trans p.2.1) hx) (fun i x H' hi p => by
      have hix := (List.getElem?_eq_some_iff.mp hi).1
      have hiu : i < us.length := by omega
      exact ⟨hw x, cu_turn p (by omega) (List.getElem?_eq_getElem hiu) (he i x _ H1 (e.trans e1) hi (List.getElem?_eq_getElem hiu))⟩)
    (fun H' p => by
      obtain ⟨p1, p2, ps, p3, p4⟩ := p
      rw [← hl, List.take_length] at p4
      exact q Dl ps H' (fresh_back e1 p1) (e1.trans p2) p3 p4)⟩
/-- over a new tuple -/
theorem elu_lcNT {xs : List V} {us : List (List V)} {tl : TE} {j : Nat} {vs : List Nat} (h : EvU tl σ H xs) (hz : xs.length ≤ 40000) (hl : us.length = xs.length) (hw : ∀ x, wipe ((wipe σ vs).set j (some x)) vs = wipe σ vs)
    (he : ∀ (i : Nat) (x : V) (u : List V) H1, Ex H H1 → xs[i]? = some x → us[i]? = some u → EvU te ((wipe σ vs).set j (some x)) H1 u) :
    EvLU (tLc (iTup K tl) (gName j) tYes te vs) σ H us := fun H0 e Q q => h H0 e _ fun a H1 ha e1 hx => ⟨a, rfl, ⟨xs, st_of hx⟩, fun Dl hD =>
  lc_tup (xs := xs) (Cu H1 us Dl) ⟨hD, Ex.new hD, [], upd_same, rfl, fun i p u h => by cases h⟩ (fun i H' _ p => st_of (p.2.1 a _ hx)) (fun i x H' hi p => by
      have hix := (List.getElem?_eq_some_iff.mp hi).1
      have hiu : i < us.length := by omega
      exact ⟨hw x, cu_turn p (by omega) (List.getElem?_eq_getElem hiu) (he i x _ H1 (e.trans e1) hi (List.getElem?_eq_getElem hiu))⟩)
    (fun H' p => by
      obtain ⟨p1, p2, ps, p3, p4⟩ := p
      rw [← hl, List.take_length] at p4
      exact q Dl ps H' (fresh_back e1 p1) (e1.trans p2) p3 p4)⟩
theorem el_lcT' {a : Addr} {xs : List V} {tl : TE} {j : Nat} {vs : List Nat} (v : Nat → V) (h : Ev tl σ H (.ref a)) (hx : SqT K H a xs) (hz : xs.length ≤ 40000) (hw : ∀ x, wipe ((wipe σ vs).set j (some x)) vs = wipe σ vs)
    (he : ∀ (i : Nat) (x : V) H1, Ex H H1 → xs[i]? = some x → Ev te ((wipe σ vs).set j (some x)) H1 (v i)) :
    EvL (tLc (iTup K tl) (gName j) tYes te vs) σ H (given xs.length (fun _ => true) v) := fun H0 e Q q => h H0 e _ fun H1 e1 => ⟨a, rfl, ⟨xs, ex_t (e.trans e1) hx⟩, fun Dl hD =>
  lc_tup (xs := xs) (Cw H1 (fun _ => true) v Dl) ⟨hD, Ex.new hD, upd_same⟩ (fun i H' _ p => ex_t ((e.trans e1).trans p.2.1) hx) (fun i x H' hi p => ⟨hw x, cw_turn p (by have := (List.getElem?_eq_some_iff.mp hi).1; omega) (fun H1 _ Q q => q H1 (Ex.refl H1)) (fun _ => he i x H1 (e.trans e1) hi)⟩)
    (fun H' p => q Dl H' (fresh_back e1 p.1) (e1.trans p.2.1) p.2.2)⟩
theorem el_lcL' {a : Addr} {xs : List V} {tl : TE} {j : Nat} {vs : List Nat} (v : Nat → V) (h : Ev tl σ H (.ref a)) (hx : SqL K H a xs) (hz : xs.length ≤ 40000) (hw : ∀ x, wipe ((wipe σ vs).set j (some x)) vs = wipe σ vs)
    (he : ∀ (i : Nat) (x : V) H1, Ex H H1 → xs[i]? = some x → Ev te ((wipe σ vs).set j (some x)) H1 (v i)) :
    EvL (tLc (iList K tl) (gName j) tYes te vs) σ H (given xs.length (fun _ => true) v) := el_lcL (fun _ => true) v h hx hz hw (fun _ _ H1 _ _ H2 _ Q q => q H2 (Ex.refl H2)) fun i x H1 e1 hx _ => he i x H1 e1 hx
/-- tuple([..]) -/
theorem eu_tuple {tl : TE} {xs : List V} (h : EvL tl σ H xs) : EvU (tCB (fun xs H Q => ∃ p ys, xs = [.ref p] ∧ ((SqL K H p ys ∧ ∀ l, H l = none → Q (.ref l) (upd H l (.tup ys))) ∨ (SqT K H p ys ∧ Q (.ref p) H))) (tCons tl tNil)) σ H xs := fun H1 e Q q =>
  h H1 e _ fun p H2 _ e2 h2 => ⟨p, xs, rfl, .inl ⟨sq_of h2, fun l hl => q l _ (fresh_back e2 hl) (e2.trans (Ex.new hl)) upd_same⟩⟩
/-! ### the law's own comparison, of lists of plain values -/
theorem sm_flat {d : Nat} {v : V} (h : flatV v = true) : Sm K H (d + 1) v v := .inl ⟨rfl, h⟩
theorem sm_row {d : Nat} {xs : List V} (hf : xs.all flatV = true) (i : Nat) (x y : V) (hx : xs[i]? = some x) (hy : xs[i]? = some y) : Sm K H (d + 1) x y := by
  have e : x = y := Option.some.inj (hx.symm.trans hy)
  subst e
  exact sm_flat (List.all_eq_true.mp hf x (List.mem_of_getElem? hx))
theorem sm_lstF {d : Nat} {p q : Addr} {xs : List V} (h1 : SqL K H p xs) (h2 : SqL K H q xs) (hf : xs.all flatV = true) (hz : xs.length ≤ 1000) : Sm K H (d + 2) (.ref p) (.ref q) := .inr ⟨p, q, xs, xs, rfl, rfl, .inl ⟨h1, h2⟩, rfl, hz, sm_row hf⟩
theorem sm_tupF {d : Nat} {p q : Addr} {xs : List V} (h1 : SqT K H p xs) (h2 : SqT K H q xs) (hf : xs.all flatV = true) (hz : xs.length ≤ 1000) : Sm K H (d + 2) (.ref p) (.ref q) := .inr ⟨p, q, xs, xs, rfl, rfl, .inr ⟨h1, h2⟩, rfl, hz, sm_row hf⟩
theorem et_sameL {t1 t2 : TE} {xs : List V} {E : XK} {d : Nat} (h1 : EvL t1 σ H xs) (h2 : EvL t2 σ H xs) (hf : xs.all flatV = true) (hz : xs.length ≤ 1000) : EvT (tNot (tB (tCall (spSame K (d + 2)) [] E (tCons t1 (tCons t2 tNil))))) σ H false := fun H0 e0 Q q =>
  h1 H0 e0 _ fun p H1 n1 e1 b1 => h2 H1 (e0.trans e1) _ fun r H2 n2 e2 b2 => ⟨_, _, rfl, sm_lstF (sq_of (e2 _ _ b1)) (sq_of b2) hf hz, fun H3 e3 => ⟨true, rfl, q H3 ((e1.trans e2).trans e3)⟩⟩
/-! ### the program's functions, by their readings -/
theorem ev_side {n i j k : Nat} {p q r : Addr} {x y z : Pt} {E : XK} (h1 : σ[i]? = some (some (.ref p))) (h2 : σ[j]? = some (some (.ref q))) (h3 : σ[k]? = some (some (.ref r))) (hx : Pl K n H p x) (hy : Pl K n H q y) (hz : Pl K n H r z) :
    Ev (tCall (spSide K n) [] E (tCons (tVar i) (tCons (tVar j) (tCons (tVar k) tNil)))) σ H (.int (sgn (cross x y z))) := ev_call (ea_cons (ev_var h1) (ea_cons (ev_var h2) (ea_cons (ev_var h3) ea_nil))) fun H1 e1 Q' q' E' => ⟨p, q, r, x, y, z, rfl, hx.ext e1, hy.ext e1, hz.ext e1, q'⟩
theorem ev_cross {n i j k : Nat} {p q r : Addr} {x y z : Pt} {E : XK} (h1 : σ[i]? = some (some (.ref p))) (h2 : σ[j]? = some (some (.ref q))) (h3 : σ[k]? = some (some (.ref r))) (hx : Pl K n H p x) (hy : Pl K n H q y) (hz : Pl K n H r z) :
    Ev (tCall (spCross K n) [] E (tCons (tVar i) (tCons (tVar j) (tCons (tVar k) tNil)))) σ H (.int (cross x y z)) := ev_call (ea_cons (ev_var h1) (ea_cons (ev_var h2) (ea_cons (ev_var h3) ea_nil))) fun H1 e1 Q' q' E' => ⟨p, q, r, x, y, z, rfl, hx.ext e1, hy.ext e1, hz.ext e1, q'⟩
theorem ev_touch {n i j k : Nat} {p q r : Addr} {x y z : Pt} {E : XK} (h1 : σ[i]? = some (some (.ref p))) (h2 : σ[j]? = some (some (.ref q))) (h3 : σ[k]? = some (some (.ref r))) (hx : Pl K n H p x) (hy : Pl K n H q y) (hz : Pl K n H r z) :
    Ev (tCall (spTouch K n) [] E (tCons (tVar i) (tCons (tVar j) (tCons (tVar k) tNil)))) σ H (.bl (decide (OnP x y z))) := ev_call (ea_cons (ev_var h1) (ea_cons (ev_var h2) (ea_cons (ev_var h3) ea_nil))) fun H1 e1 Q' q' E' => ⟨p, q, r, x, y, z, rfl, hx.ext e1, hy.ext e1, hz.ext e1, q'⟩
end
theorem sgn_neg (i : Int) : sgn (-i) = -sgn i := by
  unfold sgn
  split <;> split <;> (try split) <;> (try split) <;> omega
theorem cross_swap (a b c : Pt) : cross b a c = -cross a b c := by
  unfold cross
  grind
theorem on_self (a b : Pt) : OnP a b a := by
  unfold OnP cross mn mx
  refine ⟨by simp [Int.sub_self], ?_, ?_, ?_, ?_⟩ <;> split <;> omega
theorem due_sgn (i : Int) : (if i < 0 then -1 else if decide (i > 0) = true then 1 else 0) = sgn i := by
  unfold sgn
  split <;> (try split) <;> (try split) <;> (try split) <;> simp_all <;> omega
end Hs
namespace Hs
open PySem PySem.Spec PyProof.Rows L2
/-! ### for x in zip(*rows), x a name: the tuple that was handed out may be held or gone -/
abbrev IsZipF (h : Heap) (z TI TO : Addr) (f0 : Value) (f1 : Bool) : Prop := h.get? z = some { cls := .type "zip", dict := none, data := .fields #[f0, .bool f1, .bool false, .ref TI, .ref TO], slots := #[] }
abbrev IsTupA (h : Heap) (T : Addr) (arr : Array Value) : Prop := h.get? T = some { cls := .type "tuple", data := .seq arr }
def OwnF (f0 : Value) : Prop := f0 = .none ∨ ∃ T : Nat, f0 = rawInt T
theorem _root_.PySem.Heap.IsTuple.at' {h h' : Heap} {l : Addr} {xs : Array Value} (x : h.IsTuple l xs) (k : ∀ o, h.get? l = some o → h'.get? l = some o) : h'.IsTuple l xs := by
  obtain ⟨o, ho, r⟩ := x
  exact ⟨o, k o ho, r⟩
theorem set2 {arr : Array Value} {x1 x2 : Value} (h : arr.size = 2) : ((arr).setIfInBounds 0 x1).setIfInBounds 1 x2 = #[x1, x2] := by
  obtain ⟨l⟩ := arr
  match l, h with
  | [a, b], _ => rfl
theorem set3 {arr : Array Value} {x1 x2 x3 : Value} (h : arr.size = 3) : (((arr).setIfInBounds 0 x1).setIfInBounds 1 x2).setIfInBounds 2 x3 = #[x1, x2, x3] := by
  obtain ⟨l⟩ := arr
  match l, h with
  | [a, b, c], _ => rfl
section
variable {prog : Program} {w : World} {A : Around} {E : Value → Shared → Prop} {s : Shared}
theorem upSeq {T : Addr} {arr : Array Value} {x : Value} {k : Nat} {Q : Unit → Shared → Prop} (hT : IsTupA s.heap T arr) (hn : arr.size ≤ 10) (h : ∀ h', IsTupA h' T (arr.setIfInBounds k x) → Heap.SameBut T s.heap h' → Q () { s with heap := h' }) : wpAny (model prog w) A (updateSeq T (·.setIfInBounds k x)) Q E s := by
  refine wpAny_updateSeq hT rfl (h _ ?_ (Heap.SameBut.update ..)) (hz := Nat.le_trans hn (by decide)) (_hz' := by rw [Array.size_setIfInBounds]; exact Nat.le_trans hn (by decide))
  rw [IsTupA, Heap.get?_update_self _ hT rfl]
  simp [Obj.mapSeq]
theorem owned_any {z TI TO : Addr} {f0 : Value} {f1 : Bool} {Q : Bool → Shared → Prop} (hz : IsZipF s.heap z TI TO f0 f1) (hf0 : OwnF f0) (ht : Q true s) (hf : ∀ h', IsZipF h' z TI TO f0 true → Heap.SameBut z s.heap h' → Q false { s with heap := h' }) :
    wpAny (model prog w) A (Builtin.SmallTypes.ownedTupleIsFree (.ref z)) Q E s := by
  unfold Builtin.SmallTypes.ownedTupleIsFree
  rcases hf0 with rfl | ⟨T, rfl⟩
  · exact wpAny_bind (wpAny_field hz rfl (x := .none) rfl (wpAny_pure ht))
  · refine wpAny_bind (wpAny_field hz rfl (x := rawInt T) rfl ?_)
    show wpAny _ _ (loadIfAlive ((T : Int).toNat) >>= _) _ _ _
    rw [Int.toNat_natCast]
    have al : ∀ {Q' : Option Obj → Shared → Prop}, Q' (s.heap.get? T) s → wpAny (model prog w) A (loadIfAlive T) Q' E s := fun h => fun _ _ _ => h
    refine wpAny_bind (al ?_)
    cases hg : s.heap.get? T with
    | none =>
      simp only [Option.isNone_none, if_true]
      exact wpAny_pure ht
    | some o =>
      simp only [Option.isNone_some, Bool.false_eq_true, if_false]
      refine wpAny_bind (wpAny_field hz rfl (x := .bool f1) rfl ?_)
      cases f1 with
      | true =>
        rw [if_neg (show ¬ ((Value.bool true != Value.bool true) = true) from Bool.false_ne_true)]
        exact wpAny_pure (hf s.heap hz (Heap.SameBut.refl _ _))
      | false =>
        rw [if_pos (show (Value.bool false != Value.bool true) = true from rfl)]
        exact wpAny_bind (wpAny_setField_rec hz (by simp) fun h₁ hz₁ hs₁ => wpAny_pure (hf h₁ hz₁ hs₁))
theorem pyIter_zipF {z TI TO : Addr} {f0 : Value} {f1 : Bool} {Q : Value → Shared → Prop} (hz : IsZipF s.heap z TI TO f0 f1) (h : Q (.ref z) s) : wpAny (model prog w) A (pyIter (.ref z)) Q E s := by
  have hT : s.TypeIs (.ref z) "zip" := ⟨_, hz, rfl⟩
  refine wpAny_pyIter_slot hT F.slot_zip_iter (wpAny_call_entry F.slot_zip_iter hT F.entry_zip_iter ?_ (F.args_zip_iter_1 _))
  show wpAny _ _ (ret (.ref z)) _ _ s
  exact wpAny_pure ⟨_, rfl, "zip", _, hT, F.slot_zip_next.lookup, h⟩
end
end Hs
namespace Hs
open PySem PySem.Spec PyProof.Rows L2
structure ZA2 (z TI TO i1 i2 l1 l2 : Addr) : Prop where
  TIz : TI ≠ z
  TOz : TO ≠ z
  TITO : TI ≠ TO
  i1z : i1 ≠ z
  TIi1 : TI ≠ i1
  TOi1 : TO ≠ i1
  i2z : i2 ≠ z
  TIi2 : TI ≠ i2
  TOi2 : TO ≠ i2
  i1i2 : i1 ≠ i2
  l1z : l1 ≠ z
  l1TO : l1 ≠ TO
  l1i1 : l1 ≠ i1
  l1i2 : l1 ≠ i2
  l2z : l2 ≠ z
  l2TO : l2 ≠ TO
  l2i1 : l2 ≠ i1
  l2i2 : l2 ≠ i2
section
variable {prog : Program} {w : World} {A : Around} {E : Value → Shared → Prop} {s : Shared}
theorem z2_next_item {z TI TO i1 i2 l1 l2 : Addr} {k : Nat} {xs1 xs2 : Array Value} {f0 : Value} {f1 : Bool} {arr : Array Value} {x1 x2 : Value} {Q : Value → Shared → Prop} (D : ZA2 z TI TO i1 i2 l1 l2) (hz : IsZipF s.heap z TI TO f0 f1) (hf0 : OwnF f0) (hTI : IsTupA s.heap TI #[.ref i1, .ref i2]) (hTO : IsTupA s.heap TO arr) (hsz : arr.size = 2) (h1 : s.heap.IsTupleIter i1 l1 k) (h2 : s.heap.IsTupleIter i2 l2 k) (hl1 : s.heap.IsTuple l1 xs1) (hl2 : s.heap.IsTuple l2 xs2) (hx1 : xs1[k]? = some x1) (hx2 : xs2[k]? = some x2)
    (hQ : ∀ h' f0' f1' arr', OwnF f0' → IsZipF h' z TI TO f0' f1' → IsTupA h' TO arr' → arr'.size = 2 → h'.IsTupleIter i1 l1 (k + 1) → h'.IsTupleIter i2 l2 (k + 1) → IsTupA h' s.heap.objs.size #[x1, x2] → h'.objs.size = s.heap.objs.size + 1 → (∀ c o, c ≠ z → c ≠ TO → c ≠ i1 → c ≠ i2 → s.heap.get? c = some o → h'.get? c = some o) → Q (.ref s.heap.objs.size) { s with heap := h' }) :
    wpAny (model prog w) A (Builtin.«zip.__next__» ⟨[.ref z], []⟩) (fun fin s' => ∃ v, fin = .done (.ret v) ∧ Q v s') E s := by
  show wpAny _ _ (field (.ref z) 2 >>= _) _ _ _
  refine wpAny_bind (wpAny_field hz rfl (x := .bool false) rfl ?_)
  show wpAny _ _ (field (.ref z) 3 >>= _) _ _ _
  refine wpAny_bind (wpAny_field hz rfl (x := .ref TI) rfl ?_)
  refine wpAny_bind (wpAny_seqItems hTI rfl ?_)
  show wpAny _ _ (Builtin.SmallTypes.ownedTupleIsFree (.ref z) >>= _) _ _ _
  refine wpAny_bind (owned_any hz hf0 ?_ fun h₁ hz₁ hs₁ => ?_)
  · simp only [if_true]
    refine wpAny_bind (wpAny_rule ?_)
    refine wpAny_bind (wpAny_field hz rfl (x := .ref TO) rfl ?_)
    refine wpAny_bind (wpAny_setField_rec hz (by simp) fun h₀ hz₀ hs₀ => ?_)
    replace hz₀ : IsZipF h₀ z TI TO .ellipsis f1 := hz₀
    have K0 : ∀ c o, c ≠ z → s.heap.get? c = some o → h₀.get? c = some o := fun c o c1 e => hs₀.extBut _ _ c1 e
    have N0 : h₀.objs.size = s.heap.objs.size := hs₀.1
    have T0 : IsTupA h₀ TO arr := K0 _ _ D.TOz hTO
    have J1_0 : h₀.IsTupleIter i1 l1 k := h1.at fun o e => K0 _ o D.i1z e
    have L1_0 : h₀.IsTuple l1 xs1 := hl1.at' fun o e => K0 _ o D.l1z e
    have J2_0 : h₀.IsTupleIter i2 l2 k := h2.at fun o e => K0 _ o D.i2z e
    have L2_0 : h₀.IsTuple l2 xs2 := hl2.at' fun o e => K0 _ o D.l2z e
    refine wpAny_bind ?_
    simp only [List.zipIdx_cons, List.zipIdx_nil, List.forIn_cons, List.forIn_nil]
    refine wpAny_bind (wpAny_bind (wpAny_onRaise ?_))
    show wpAny _ _ (Builtin.SmallTypes.nextOf (.ref i1) >>= _) _ _ _
    refine wpAny_bind (RZ.nextOf_tuple_item J1_0 L1_0 hx1 fun g1 m1 gs1 => wpAny_pure ?_)
    have V1 : IsTupA g1 TO (arr) := gs1.extBut _ _ D.TOi1 T0
    refine wpAny_bind (wpAny_seqItems V1 rfl ?_)
    refine wpAny_bind (upSeq V1 (by simp [hsz]) fun u1 T1 us1 => ?_)
    refine wpAny_bind (wpAny_letGo (wpAny_pure ?_))
    have J1_1 : u1.IsTupleIter i1 l1 (k + 1) := m1.extBut us1.extBut D.TOi1.symm
    have L1_1 : u1.IsTuple l1 xs1 := (L1_0.extBut gs1.extBut D.l1i1).extBut us1.extBut D.l1TO
    have J2_1 : u1.IsTupleIter i2 l2 k := (J2_0.extBut gs1.extBut D.i1i2.symm).extBut us1.extBut D.TOi2.symm
    have L2_1 : u1.IsTuple l2 xs2 := (L2_0.extBut gs1.extBut D.l2i1).extBut us1.extBut D.l2TO
    have K1 : ∀ c o, c ≠ z → c ≠ TO → c ≠ i1 → s.heap.get? c = some o → u1.get? c = some o := fun c o c1 c2 q1 e => us1.extBut _ _ c2 (gs1.extBut _ _ q1 (K0 c o c1  e))
    have Z1 : IsZipF u1 z TI TO .ellipsis f1 := us1.extBut _ _ D.TOz.symm (gs1.extBut _ _ D.i1z.symm hz₀)
    have N1 : u1.objs.size = s.heap.objs.size := by rw [us1.1, gs1.1, N0]
    refine wpAny_bind (wpAny_bind (wpAny_onRaise ?_))
    show wpAny _ _ (Builtin.SmallTypes.nextOf (.ref i2) >>= _) _ _ _
    refine wpAny_bind (RZ.nextOf_tuple_item J2_1 L2_1 hx2 fun g2 m2 gs2 => wpAny_pure ?_)
    have V2 : IsTupA g2 TO ((arr).setIfInBounds 0 x1) := gs2.extBut _ _ D.TOi2 T1
    refine wpAny_bind (wpAny_seqItems V2 rfl ?_)
    refine wpAny_bind (upSeq V2 (by simp [hsz]) fun u2 T2 us2 => ?_)
    refine wpAny_bind (wpAny_letGo (wpAny_pure ?_))
    have J1_2 : u2.IsTupleIter i1 l1 (k + 1) := (J1_1.extBut gs2.extBut D.i1i2).extBut us2.extBut D.TOi1.symm
    have L1_2 : u2.IsTuple l1 xs1 := (L1_1.extBut gs2.extBut D.l1i2).extBut us2.extBut D.l1TO
    have J2_2 : u2.IsTupleIter i2 l2 (k + 1) := m2.extBut us2.extBut D.TOi2.symm
    have L2_2 : u2.IsTuple l2 xs2 := (L2_1.extBut gs2.extBut D.l2i2).extBut us2.extBut D.l2TO
    have K2 : ∀ c o, c ≠ z → c ≠ TO → c ≠ i1 → c ≠ i2 → s.heap.get? c = some o → u2.get? c = some o := fun c o c1 c2 q1 q2 e => us2.extBut _ _ c2 (gs2.extBut _ _ q2 (K1 c o c1 c2 q1 e))
    have Z2 : IsZipF u2 z TI TO .ellipsis f1 := us2.extBut _ _ D.TOz.symm (gs2.extBut _ _ D.i2z.symm Z1)
    have N2 : u2.objs.size = s.heap.objs.size := by rw [us2.1, gs2.1, N1]
    refine wpAny_pure ?_
    refine wpAny_bind (wpAny_seqItems T2 rfl ?_)
    have ea : (((arr).setIfInBounds 0 x1).setIfInBounds 1 x2) = #[x1, x2] := set2 hsz
    rw [ea] at T2 ⊢
    refine wpAny_bind (wpAny_newTuple ?_)
    show wpAny _ _ (Builtin.SmallTypes.ownedTupleHandOut (.ref z) (.ref u2.objs.size) >>= _) _ _ _
    refine wpAny_bind ?_
    unfold Builtin.SmallTypes.ownedTupleHandOut
    have zlt : z < u2.objs.size := Heap.lt_size Z2
    have hz₆ : IsZipF (u2.push { cls := .type "tuple", data := .seq #[x1, x2] }) z TI TO .ellipsis f1 := Heap.get?_push_of_some _ Z2
    refine wpAny_bind (wpAny_setField_rec hz₆ (by simp) fun h₇ hz₇ hs₇ => ?_)
    replace hz₇ : IsZipF h₇ z TI TO (rawInt u2.objs.size) f1 := hz₇
    refine wpAny_setField_rec hz₇ (by simp) fun h₈ hz₈ hs₈ => ?_
    replace hz₈ : IsZipF h₈ z TI TO (rawInt u2.objs.size) false := hz₈
    have up : ∀ c o, c ≠ z → u2.get? c = some o → h₈.get? c = some o := fun c o c1 e => hs₈.extBut _ _ c1 (hs₇.extBut _ _ c1 (Heap.get?_push_of_some _ e))
    have hT₈ : IsTupA h₈ u2.objs.size #[x1, x2] := hs₈.extBut _ _ (Nat.ne_of_gt zlt) (hs₇.extBut _ _ (Nat.ne_of_gt zlt) (Heap.get?_push_size _ rfl))
    have hz8 : h₈.objs.size = u2.objs.size + 1 := by rw [hs₈.1, hs₇.1, Heap.size_push]
    refine wpAny_pure ⟨_, rfl, ?_⟩
    show Q (.ref u2.objs.size) _
    rw [N2] at hz₈ hT₈ hz8 ⊢
    exact hQ h₈ _ _ _ (.inr ⟨_, rfl⟩) hz₈ (up _ _ D.TOz T2) rfl (J1_2.at fun o e => up _ o D.i1z e) (J2_2.at fun o e => up _ o D.i2z e) hT₈ hz8 fun c o c1 c2 q1 q2 e => up c o c1 (K2 c o c1 c2 q1 q2 e)
  · simp only [Bool.false_eq_true, if_false]
    have K0 : ∀ c o, c ≠ z → s.heap.get? c = some o → h₁.get? c = some o := fun c o c1 e => hs₁.extBut _ _ c1 e
    have J1_0 : h₁.IsTupleIter i1 l1 k := h1.at fun o e => K0 _ o D.i1z e
    have L1_0 : h₁.IsTuple l1 xs1 := hl1.at' fun o e => K0 _ o D.l1z e
    have J2_0 : h₁.IsTupleIter i2 l2 k := h2.at fun o e => K0 _ o D.i2z e
    have L2_0 : h₁.IsTuple l2 xs2 := hl2.at' fun o e => K0 _ o D.l2z e
    refine wpAny_bind ?_
    rw [← Array.forIn_toList]
    simp only [List.forIn_cons, List.forIn_nil]
    refine wpAny_bind (wpAny_bind (wpAny_holding ?_))
    show wpAny _ _ (Builtin.SmallTypes.nextOf (.ref i1) >>= _) _ _ _
    refine wpAny_bind (RZ.nextOf_tuple_item (s := { s with heap := h₁ }) J1_0 L1_0 hx1 fun g1 m1 gs1 => wpAny_pure ?_)
    refine wpAny_pure ?_
    have J1_1 : g1.IsTupleIter i1 l1 (k + 1) := m1
    have L1_1 : g1.IsTuple l1 xs1 := L1_0.extBut gs1.extBut D.l1i1
    have J2_1 : g1.IsTupleIter i2 l2 k := J2_0.extBut gs1.extBut D.i1i2.symm
    have L2_1 : g1.IsTuple l2 xs2 := L2_0.extBut gs1.extBut D.l2i1
    refine wpAny_bind (wpAny_bind (wpAny_holding ?_))
    show wpAny _ _ (Builtin.SmallTypes.nextOf (.ref i2) >>= _) _ _ _
    refine wpAny_bind (RZ.nextOf_tuple_item (s := { s with heap := g1 }) J2_1 L2_1 hx2 fun g2 m2 gs2 => wpAny_pure ?_)
    refine wpAny_pure (wpAny_pure ?_)
    have J1_2 : g2.IsTupleIter i1 l1 (k + 1) := J1_1.extBut gs2.extBut D.i1i2
    have L1_2 : g2.IsTuple l1 xs1 := L1_1.extBut gs2.extBut D.l1i2
    have J2_2 : g2.IsTupleIter i2 l2 (k + 1) := m2
    have L2_2 : g2.IsTuple l2 xs2 := L2_1.extBut gs2.extBut D.l2i2
    show wpAny _ _ (newTuple [x1, x2] >>= _) _ _ _
    refine wpAny_bind (wpAny_newTuple ?_)
    have hsz' : g2.objs.size = s.heap.objs.size := by rw [gs2.1, gs1.1, hs₁.1]
    have hz3 : IsZipF g2 z TI TO f0 true := (gs2.extBut _ _ D.i2z.symm (gs1.extBut _ _ D.i1z.symm hz₁))
    have hk : ∀ c o, c ≠ z → c ≠ i1 → c ≠ i2 → s.heap.get? c = some o → g2.get? c = some o := fun c o c1 q1 q2 e => (gs2.extBut _ _ q2 (gs1.extBut _ _ q1 (K0 c o c1 e)))
    refine wpAny_pure ⟨_, rfl, ?_⟩
    show Q (.ref g2.objs.size) _
    have hp : IsTupA (g2.push { cls := .type "tuple", data := .seq #[x1, x2] }) g2.objs.size #[x1, x2] := Heap.get?_push_size _ rfl
    have hz4 : (g2.push { cls := .type "tuple", data := .seq #[x1, x2] }).objs.size = g2.objs.size + 1 := Heap.size_push ..
    rw [hsz'] at hp hz4 ⊢
    exact hQ _ _ _ _ hf0 (Heap.get?_push_of_some _ hz3) (Heap.get?_push_of_some _ (hk _ _ D.TOz D.TOi1 D.TOi2 hTO)) hsz (J1_2.at fun o e => Heap.get?_push_of_some _ e) (J2_2.at fun o e => Heap.get?_push_of_some _ e) hp hz4 fun c o c1 c2 q1 q2 e => Heap.get?_push_of_some _ (hk c o c1 q1 q2 e)
theorem z2_next_end {z TI TO i1 i2 l1 l2 : Addr} {k : Nat} {xs1 xs2 : Array Value} {f0 : Value} {f1 : Bool} {arr : Array Value} {Q : Fin → Shared → Prop} (hh : A.handled = none) (D : ZA2 z TI TO i1 i2 l1 l2) (hz : IsZipF s.heap z TI TO f0 f1) (hf0 : OwnF f0) (hTI : IsTupA s.heap TI #[.ref i1, .ref i2]) (hTO : IsTupA s.heap TO arr) (hsz : arr.size = 2) (h1 : s.heap.IsTupleIter i1 l1 k) (h2 : s.heap.IsTupleIter i2 l2 k) (hl1 : s.heap.IsTuple l1 xs1) (hl2 : s.heap.IsTuple l2 xs2) (hx : xs1[k]? = none)
    (hE : ∀ h' e, (∀ c o, c ≠ z → c ≠ TO → c ≠ i1 → c ≠ i2 → s.heap.get? c = some o → h'.get? c = some o) → (∃ o, h'.get? e = some o ∧ o.cls = .type "StopIteration") → E (.ref e) { s with heap := h' }) :
    wpAny (model prog w) A (Builtin.«zip.__next__» ⟨[.ref z], []⟩) Q E s := by
  show wpAny _ _ (field (.ref z) 2 >>= _) _ _ _
  refine wpAny_bind (wpAny_field hz rfl (x := .bool false) rfl ?_)
  show wpAny _ _ (field (.ref z) 3 >>= _) _ _ _
  refine wpAny_bind (wpAny_field hz rfl (x := .ref TI) rfl ?_)
  refine wpAny_bind (wpAny_seqItems hTI rfl ?_)
  show wpAny _ _ (Builtin.SmallTypes.ownedTupleIsFree (.ref z) >>= _) _ _ _
  refine wpAny_bind (owned_any hz hf0 ?_ fun h₁ hz₁ hs₁ => ?_)
  · simp only [if_true]
    refine wpAny_bind (wpAny_rule ?_)
    refine wpAny_bind (wpAny_field hz rfl (x := .ref TO) rfl ?_)
    refine wpAny_bind (wpAny_setField_rec hz (by simp) fun h₀ hz₀ hs₀ => ?_)
    replace hz₀ : IsZipF h₀ z TI TO .ellipsis f1 := hz₀
    refine wpAny_bind ?_
    simp only [List.zipIdx_cons, List.zipIdx_nil, List.forIn_cons, List.forIn_nil]
    refine wpAny_bind (wpAny_bind (wpAny_onRaise ?_))
    show wpAny _ _ (Builtin.SmallTypes.nextOf (.ref i1) >>= _) _ _ _
    refine wpAny_bind (RZ.nextOf_tuple_end hh (h1.extBut hs₀.extBut D.i1z) (hl1.extBut hs₀.extBut D.l1z) hx fun h₂ e hs₂ he => ?_)
    obtain ⟨oe, hoe, hce⟩ := he
    have hz₂ : IsZipF h₂ z TI TO .ellipsis f1 := hs₂ _ _ D.i1z.symm hz₀
    have hez : e ≠ z := fun x => by subst x; rw [hz₂] at hoe; cases hoe; simp at hce
    refine wpAny_setField_rec hz₂ (by simp) fun h₃ _ hs₃ => hE h₃ e (fun c o c1 _ c3 _ x => hs₃.extBut _ _ c1 (hs₂ _ _ c3 (hs₀.extBut _ _ c1 x))) ⟨oe, hs₃.extBut _ _ hez hoe, hce⟩
  · simp only [Bool.false_eq_true, if_false]
    refine wpAny_bind ?_
    rw [← Array.forIn_toList]
    simp only [List.forIn_cons, List.forIn_nil]
    refine wpAny_bind (wpAny_bind (wpAny_holding ?_))
    show wpAny _ _ (Builtin.SmallTypes.nextOf (.ref i1) >>= _) _ _ _
    refine wpAny_bind (RZ.nextOf_tuple_end (s := { s with heap := h₁ }) hh (h1.extBut hs₁.extBut D.i1z) (hl1.extBut hs₁.extBut D.l1z) hx fun h₂ e hs₂ he => ?_)
    exact hE h₂ e (fun c o c1 _ c3 _ x => hs₂ _ _ c3 (hs₁.extBut _ _ c1 x)) he
theorem z2_pyNext_item {z TI TO i1 i2 l1 l2 : Addr} {k : Nat} {xs1 xs2 : Array Value} {f0 : Value} {f1 : Bool} {arr : Array Value} {x1 x2 : Value} {Q : Option Value → Shared → Prop} (D : ZA2 z TI TO i1 i2 l1 l2) (hz : IsZipF s.heap z TI TO f0 f1) (hf0 : OwnF f0) (hTI : IsTupA s.heap TI #[.ref i1, .ref i2]) (hTO : IsTupA s.heap TO arr) (hsz : arr.size = 2) (h1 : s.heap.IsTupleIter i1 l1 k) (h2 : s.heap.IsTupleIter i2 l2 k) (hl1 : s.heap.IsTuple l1 xs1) (hl2 : s.heap.IsTuple l2 xs2) (hx1 : xs1[k]? = some x1) (hx2 : xs2[k]? = some x2)
    (hQ : ∀ h' f0' f1' arr', OwnF f0' → IsZipF h' z TI TO f0' f1' → IsTupA h' TO arr' → arr'.size = 2 → h'.IsTupleIter i1 l1 (k + 1) → h'.IsTupleIter i2 l2 (k + 1) → IsTupA h' s.heap.objs.size #[x1, x2] → h'.objs.size = s.heap.objs.size + 1 → (∀ c o, c ≠ z → c ≠ TO → c ≠ i1 → c ≠ i2 → s.heap.get? c = some o → h'.get? c = some o) → Q (some (.ref s.heap.objs.size)) { s with heap := h' }) : wpAny (model prog w) A (pyNext (.ref z)) Q E s := by
  have hT : s.TypeIs (.ref z) "zip" := ⟨_, hz, rfl⟩
  unfold pyNext
  exact wpAny_bind (wpAny_attempt (wpAny_callSpecial?_slot (name := Str.ofString "__next__") hT F.slot_zip_next
    (wpAny_call_entry F.slot_zip_next hT F.entry_zip_next
      (z2_next_item D hz hf0 hTI hTO hsz h1 h2 hl1 hl2 hx1 hx2 fun h' b0 b1 b2 b3 b4 b5 b6 b7 b8 b9 b10 b11 => wpAny_pure (hQ h' b0 b1 b2 b3 b4 b5 b6 b7 b8 b9 b10 b11)) (F.args_zip_next_1 _))))
theorem z2_pyNext_end {z TI TO i1 i2 l1 l2 : Addr} {k : Nat} {xs1 xs2 : Array Value} {f0 : Value} {f1 : Bool} {arr : Array Value} {Q : Option Value → Shared → Prop} (hh : A.handled = none) (D : ZA2 z TI TO i1 i2 l1 l2) (hz : IsZipF s.heap z TI TO f0 f1) (hf0 : OwnF f0) (hTI : IsTupA s.heap TI #[.ref i1, .ref i2]) (hTO : IsTupA s.heap TO arr) (hsz : arr.size = 2) (h1 : s.heap.IsTupleIter i1 l1 k) (h2 : s.heap.IsTupleIter i2 l2 k) (hl1 : s.heap.IsTuple l1 xs1) (hl2 : s.heap.IsTuple l2 xs2) (hx : xs1[k]? = none)
    (hQ : ∀ h', (∀ c o, c ≠ z → c ≠ TO → c ≠ i1 → c ≠ i2 → s.heap.get? c = some o → h'.get? c = some o) → Q none { s with heap := h' }) : wpAny (model prog w) A (pyNext (.ref z)) Q E s := by
  have hT : s.TypeIs (.ref z) "zip" := ⟨_, hz, rfl⟩
  unfold pyNext
  refine wpAny_bind (wpAny_attempt (wpAny_callSpecial?_slot (name := Str.ofString "__next__") hT F.slot_zip_next
    (wpAny_call_entry F.slot_zip_next hT F.entry_zip_next (z2_next_end hh D hz hf0 hTI hTO hsz h1 h2 hl1 hl2 hx fun h' e hk he => ?_) (F.args_zip_next_1 _))))
  obtain ⟨o, ho, hc⟩ := he
  refine wpAny_bind (wpAny_isInstance (T := "StopIteration") (b := true) ⟨o, ho, hc⟩ isSubtype_stop ?_)
  exact wpAny_pure (hQ _ hk)
end
abbrev zt2H1 (h : Heap) (l1 : Addr) : Heap := h.push { cls := .type "tuple_iterator", data := .fields #[.ref l1, .int 0 0] }
abbrev zt2H2 (h : Heap) (l1 l2 : Addr) : Heap := (zt2H1 h l1).push { cls := .type "tuple_iterator", data := .fields #[.ref l2, .int 0 0] }
abbrev zt2TI (h : Heap) (l1 l2 : Addr) : Heap := (zt2H2 h l1 l2).push { cls := .type "tuple", data := .seq #[.ref h.objs.size, .ref (zt2H1 h l1).objs.size] }
abbrev zt2TO (h : Heap) (l1 l2 : Addr) : Heap := (zt2TI h l1 l2).push { cls := .type "tuple", data := .seq #[.none, .none] }
abbrev zt2Z (h : Heap) (l1 l2 : Addr) : Heap := (zt2TO h l1 l2).push { cls := .type "zip", data := .fields #[.none, .bool false, .bool false, .ref (zt2H2 h l1 l2).objs.size, .ref (zt2TI h l1 l2).objs.size] }
theorem meets_z2_new (l1 l2 : Addr) (xs1 xs2 : Array Value) :
    Meets (Builtin.«zip.__new__» ⟨[.type "zip", .ref l1, .ref l2], []⟩) (fun _ R s => s.heap.IsTuple l1 xs1 ∧ s.heap.IsTuple l2 xs2 ∧
      R (.ok (.ret (.ref (zt2TO s.heap l1 l2).objs.size))) { s with heap := zt2Z s.heap l1 l2 }) :=
  .of_wp fun prog w A R s h => by
    obtain ⟨hp, g, d, tk, os⟩ := s; obtain ⟨hl1, hl2, h⟩ := h
    have hsub := sub_zip
    have hL1 : Heap.IsTuple (Shared.heap ⟨hp, g, d, tk, os⟩) l1 xs1 := hl1
    have hL2 : Heap.IsTuple (Shared.heap ⟨(zt2H1 hp l1), g, d, tk, os⟩) l2 xs2 := Heap.IsTuple.push (hl2) _
    wp_walk using wpAny_pyIter_tuple hL1, wpAny_pyIter_tuple hL2
    exact ⟨_, rfl, h⟩
section
variable {prog : Program} {w : World} {A : Around} {E : Value → Shared → Prop} {s : Shared}
theorem call_z2 {l1 l2 : Addr} {xs1 xs2 : Array Value} {Q : Value → Shared → Prop} (hl1 : s.heap.IsTuple l1 xs1) (hl2 : s.heap.IsTuple l2 xs2)
    (h : ∀ h', IsZipF h' (s.heap.objs.size + 4) (s.heap.objs.size + 2) (s.heap.objs.size + 3) .none false → IsTupA h' (s.heap.objs.size + 2) #[.ref s.heap.objs.size, .ref (s.heap.objs.size + 1)] → IsTupA h' (s.heap.objs.size + 3) #[.none, .none] → h'.IsTupleIter s.heap.objs.size l1 0 → h'.IsTupleIter (s.heap.objs.size + 1) l2 0 → h'.objs.size = (s.heap.objs.size + 5) → (∀ c o, s.heap.get? c = some o → h'.get? c = some o) → Q (.ref (s.heap.objs.size + 4)) { s with heap := h' }) :
    wpAny (model prog w) A (call (.type "zip") [.ref l1, .ref l2]) Q E s := by
  refine callType_new F.called_zip (by decide) (F.typeCall_zip_2 _ _) (F.newCall_zip_2 _ _) (fun obj => F.args_object_init_3 obj _ _) F.entry_zip_new (meets_z2_new l1 l2 xs1 xs2) ⟨hl1, hl2, ?_⟩
  have z1 : (zt2H1 s.heap l1).objs.size = (s.heap.objs.size + 1) := Heap.size_push ..
  have z2 : (zt2H2 s.heap l1 l2).objs.size = (s.heap.objs.size + 2) := by rw [Heap.size_push, z1]
  have z3 : (zt2TI s.heap l1 l2).objs.size = (s.heap.objs.size + 3) := by rw [Heap.size_push, z2]
  have z4 : (zt2TO s.heap l1 l2).objs.size = (s.heap.objs.size + 4) := by rw [Heap.size_push, z3]
  have z5 : (zt2Z s.heap l1 l2).objs.size = (s.heap.objs.size + 5) := by rw [Heap.size_push, z4]
  have g0 : (zt2Z s.heap l1 l2).get? s.heap.objs.size = some _ := Heap.get?_push_of_some _ (Heap.get?_push_of_some _ (Heap.get?_push_of_some _ (Heap.get?_push_of_some _ (Heap.get?_push_size _ rfl))))
  have g1 : (zt2Z s.heap l1 l2).get? (zt2H1 s.heap l1).objs.size = some _ := Heap.get?_push_of_some _ (Heap.get?_push_of_some _ (Heap.get?_push_of_some _ (Heap.get?_push_size _ rfl)))
  have g2 : (zt2Z s.heap l1 l2).get? (zt2H2 s.heap l1 l2).objs.size = some _ := Heap.get?_push_of_some _ (Heap.get?_push_of_some _ (Heap.get?_push_size _ rfl))
  have g3 : (zt2Z s.heap l1 l2).get? (zt2TI s.heap l1 l2).objs.size = some _ := Heap.get?_push_of_some _ (Heap.get?_push_size _ rfl)
  have g4 : (zt2Z s.heap l1 l2).get? (zt2TO s.heap l1 l2).objs.size = some _ := Heap.get?_push_size _ rfl
  show _ ∧ _
  rw [z2, z3, z4] at g4
  rw [z1, z2] at g2
  rw [z3] at g3
  rw [z1] at g1
  rw [z4]
  exact ⟨⟨_, g4, rfl⟩, h _ g4 g2 g3 ⟨_, g0, rfl, rfl⟩ ⟨_, g1, rfl, rfl⟩ z5 fun c o x => Heap.get?_push_of_some _ (Heap.get?_push_of_some _ (Heap.get?_push_of_some _ (Heap.get?_push_of_some _ (Heap.get?_push_of_some _ (x)))))⟩
end
/-- the 2 tuples as they stand at each turn, the items in a new tuple -/
def ItS2 (K : PySem.W.Frag) (a1 a2 : Addr) : It :=
  ⟨fun i H => ∃ (xs1 xs2 : List V) (x1 x2 : V), SqT K H a1 xs1 ∧ SqT K H a2 xs2 ∧ xs1[i]? = some x1 ∧ xs2[i]? = some x2,
    fun i H v H' => ∃ T x1 x2, v = .ref T ∧ H T = none ∧ H' = upd H T (.tup [x1, x2]) ∧ (∀ ys, SqT K H a1 ys → ys[i]? = some x1) ∧ (∀ ys, SqT K H a2 ys → ys[i]? = some x2),
    fun i H => ∃ (xs1 xs2 : List V), SqT K H a1 xs1 ∧ SqT K H a2 xs2 ∧ xs1.length ≤ i⟩
theorem turn_S2 {P : Program} {w : World} {K : PySem.W.Frag} {nm : Str} {tpos : Pos} {z TI TO i1 i2 a1 a2 : Addr} (D : ZA2 z TI TO i1 i2 a1 a2) : Turn P w K (.Name nm tpos) (ItS2 K a1 a2) [z, TI, TO, i1, i2] z (fun i h => ∃ f0 f1 arr, OwnF f0 ∧ IsZipF h z TI TO f0 f1 ∧ IsTupA h TI #[.ref i1, .ref i2] ∧ IsTupA h TO arr ∧ arr.size = 2 ∧ h.IsTupleIter i1 a1 i ∧ h.IsTupleIter i2 a2 i) where
  mem := by simp
  obj := fun i h st c hc => by
    obtain ⟨f0, f1, arr, hf0, hz, hTI, hTO, hsz, ⟨o1, e1, _, d1⟩, ⟨o2, e2, _, d2⟩⟩ := st
    have e' : c = z ∨ c = TI ∨ c = TO ∨ c = i1 ∨ c = i2 := by simpa using hc
    rcases e' with q | q | q | q | q
    · rw [q]; exact ⟨_, hz, fun v q => nomatch q⟩
    · rw [q]; exact ⟨_, hTI, fun v q => nomatch q⟩
    · rw [q]; exact ⟨_, hTO, fun v q => nomatch q⟩
    · rw [q]; exact ⟨o1, e1, fun v q => by rw [d1] at q; cases q⟩
    · rw [q]; exact ⟨o2, e2, fun v q => by rw [d2] at q; cases q⟩
  keep := fun i h h' st k => by
    obtain ⟨f0, f1, arr, hf0, hz, hTI, hTO, hsz, h1, h2⟩ := st
    exact ⟨f0, f1, arr, hf0, k z (by simp) _ hz, k TI (by simp) _ hTI, k TO (by simp) _ hTO, hsz, h1.at fun o q => k i1 (by simp) o q, h2.at fun o q => k i2 (by simp) o q⟩
  item := by
    intro X hP hw hK hc i pins s σ H E I hf st hg
    subst hP hw hK
    obtain ⟨f0, f1, arr, hf0, hz, hTI, hTO, hsz, h1, h2⟩ := st
    obtain ⟨xs1, xs2, x1, x2, hq1, hq2, hx1, hx2⟩ := hg
    obtain ⟨its1, rv1, p1, _⟩ := I.tuple hq1
    obtain ⟨w1, hw1, rw1⟩ := rv1.get hx1
    obtain ⟨its2, rv2, p2, _⟩ := I.tuple hq2
    obtain ⟨w2, hw2, rw2⟩ := rv2.get hx2
    have hzl : z < s.heap.objs.size := Heap.lt_size hz
    refine z2_pyNext_item D hz hf0 hTI hTO hsz h1 h2 p1 p2 (by simpa using hw1) (by simpa using hw2) fun h' f0' f1' arr' hf0' hz' TO' hsz' h1' h2' hT hsz2 hk => ?_
    refine ⟨_, rfl, wpAny_pure ?_⟩
    have new : ObjOk X.prog X.w (upd H s.heap.objs.size (.tup [x1, x2])) h' s.heap.objs.size (.tup [x1, x2]) := ⟨by show 2 ≤ sizeLine; decide, [w1, w2], .cons rw1 (.cons rw2 (.nil)), ⟨_, hT, rfl, _, rfl⟩⟩
    have I1 : Inv X pins σ (upd H s.heap.objs.size (.tup [x1, x2])) { s with heap := h' } :=
      I.turnedNew (t' := s.toks) (ch := [z, TI, TO, i1, i2]) (fun c o hb q => hk c o (fun q' => hb (by simp [q'])) (fun q' => hb (by simp [q'])) (fun q' => hb (by simp [q'])) (fun q' => hb (by simp [q'])) q) hf (Nat.le_refl _) new
    refine ⟨.ref s.heap.objs.size, _, I1, rfl, ⟨_, x1, x2, rfl, I.hok.fresh (Nat.le_refl _), rfl, fun l hl => by rw [I.tuple_inj hl hq1]; exact hx1, fun l hl => by rw [I.tuple_inj hl hq2]; exact hx2⟩, ⟨f0', f1', arr', hf0', hz', ?_, TO', hsz', h1', h2'⟩, fun c hcm => ?_⟩
    · exact hk _ _ D.TIz D.TITO D.TIi1 D.TIi2 hTI
    · have hlt : c < s.heap.objs.size := by
        have e' : c = z ∨ c = TI ∨ c = TO ∨ c = i1 ∨ c = i2 := by simpa using hcm
        rcases e' with q | q | q | q | q
        · rw [q]; exact hzl
        · rw [q]; exact Heap.lt_size hTI
        · rw [q]; exact Heap.lt_size hTO
        · rw [q]; obtain ⟨_, e1, _⟩ := h1; exact Heap.lt_size e1
        · rw [q]; obtain ⟨_, e1, _⟩ := h2; exact Heap.lt_size e1
      rw [upd_ne (Nat.ne_of_lt hlt)]
      exact (hf c hcm).1
  done := by
    intro X hP hw hK hc i pins s σ H E I hf st hg
    subst hP hw hK
    obtain ⟨f0, f1, arr, hf0, hz, hTI, hTO, hsz, h1, h2⟩ := st
    obtain ⟨xs1, xs2, hq1, hq2, hend⟩ := hg
    obtain ⟨its1, rv1, p1, _⟩ := I.tuple hq1
    obtain ⟨its2, rv2, p2, _⟩ := I.tuple hq2
    have l1 := rv1.length
    exact z2_pyNext_end (I.ok.hd hc) D hz hf0 hTI hTO hsz h1 h2 p1 p2 (by simp; omega) fun h' hk => ⟨rfl, I.turnedL (t' := s.toks) (ch := [z, TI, TO, i1, i2]) (fun c o hb q => hk c o (fun q' => hb (by simp [q'])) (fun q' => hb (by simp [q'])) (fun q' => hb (by simp [q'])) (fun q' => hb (by simp [q'])) q) hf⟩
  self := fun A i s Q E st h => by
    obtain ⟨f0, f1, arr, hf0, hz, _⟩ := st
    exact pyIter_zipF hz h
end Hs
namespace Hs
open PySem PySem.Spec PyProof.Rows L2

/-- zip(*rows), a call by a star alone -/
theorem callWith_starT {M : Model} {A : Around} {E : Value → Shared → Prop} {s : Shared} {env : Env} {pos p : Pos} {T : String} {e : Expr} {Q : Value → Shared → Prop} (h : wpAny M A (eval e env) (fun v s₁ => PySem.W.StarOf M A E v (fun vs s₂ => wpAny M A (call (.type T) vs) Q E s₂) s₁) E s)
    (he : starEach [.Starred e p] env = [(true, eval e env)] := by rfl) : wpAny M A (callWith pos (.type T) [] (backTo pos (starEach [.Starred e p] env)) []) Q E s := by
  rw [he]
  refine PySem.W.ks_call (P := fun _ => True) rfl (fun h _ => ⟨.machine, .inr (.inl rfl), ?_⟩) (PySem.W.ks_lone (wpAny_mono h (fun v s₁ h₁ => ?_) fun _ _ x => x))
  · exact PySem.W.Looks.now
  · unfold PySem.W.StarOf at h₁ ⊢
    refine wpAny_mono h₁ (fun b s₂ h₂ => ⟨h₂.1, wpAny_mono h₂.2 (fun vs s₃ h₃ => ⟨trivial, h₃⟩) fun _ _ x => x⟩) fun _ _ x => x
theorem neA {a b : Nat} (h : a ≠ b) : (a : Addr) ≠ (b : Addr) := h

theorem vals_refs2 {a1 a2 : Addr} {us : List Value} (r : Vals [.ref a1, .ref a2] us) : us = [.ref a1, .ref a2] := by
  cases r with
  | cons q r =>
    cases q
    cases r with
    | cons q r =>
      cases q
      cases r
      rfl
theorem apart2 (I a1 a2 : Nat) (h1 : a1 < I) (h2 : a2 < I) : ZA2 (I + 4) (I + 2) (I + 3) I (I + 1) a1 a2 := by
  constructor <;> (refine neA ?_; omega)

def iZipS2 (K : PySem.W.Frag) (te : TE) : TI := fun σ H R => te σ H fun v H1 => ∃ (l a1 a2 : Addr) (xs1 xs2 : List V), v = .ref l ∧ SqL K H1 l [.ref a1, .ref a2] ∧ SqT K H1 a1 xs1 ∧ SqT K H1 a2 xs2 ∧ R (ItS2 K a1 a2) H1
theorem pi_zipS2 {X : Cx} {e : Expr} {te : TE} {p sp pos tpos : Pos} {nm : Str} (hg : Gl X "zip") (hm : X.mg "zip" = none) (he : PE X e te) (hs : starEach [.Starred e sp] X.env = [(true, eval e X.env)] := by rfl) : PI X (.Name nm tpos) (.Call (.Name "zip" p) [.Starred e sp] [] pos) (iZipS2 X.K te) := by
  refine ⟨fun pins s σ H R I h => ?_⟩
  refine Call_ (ld_blt I hg hm PyProof.Rows.boot_zip (callWith_starT (thn (he.run pins s σ H _ I h) fun v s0 ⟨y, H1, I0, ry, l, a1, a2, xs1, xs2, ey, hl, hq1, hq2, q⟩ => ?_) hs))
  subst ey
  obtain rfl : v = Value.ref l := ry
  refine StX.star_lst I0 hl fun us s1 I1 rv => ?_
  obtain rfl : us = [.ref a1, .ref a2] := vals_refs2 rv
  obtain ⟨its1, rv1, p1, _⟩ := I1.tuple hq1
  obtain ⟨o1, ho1, _⟩ := id p1
  obtain ⟨its2, rv2, p2, _⟩ := I1.tuple hq2
  obtain ⟨o2, ho2, _⟩ := id p2
  refine call_z2 (show s1.heap.IsTuple a1 its1.toArray from p1) (show s1.heap.IsTuple a2 its2.toArray from p2) fun h' hz hTI hTO h1 h2 hsz hk => pyIter_zipF hz ?_
  have I2 : Inv X pins σ H1 { s1 with heap := h' } := I1.kept (t' := s1.toks) hk
  refine ⟨s1.heap.objs.size + 4, [s1.heap.objs.size + 4, s1.heap.objs.size + 2, s1.heap.objs.size + 3, s1.heap.objs.size, s1.heap.objs.size + 1], _, _, H1, rfl, I2, turn_S2 (apart2 s1.heap.objs.size a1 a2 (Heap.lt_size ho1) (Heap.lt_size ho2)), ⟨_, _, _, .inl rfl, hz, hTI, hTO, rfl, h1, h2⟩, fun c hcm => ?_, q⟩
  have hle : s1.heap.objs.size ≤ c := by
    simp only [List.mem_cons, List.not_mem_nil, or_false] at hcm
    rcases hcm with rfl | rfl | rfl | rfl | rfl <;> first | exact Nat.le_refl _ | exact Nat.le_add_right _ _
  exact I1.fpOk hle (I1.hok.fresh hle)

end Hs
namespace Hs
open PySem PySem.Spec PyProof.Rows L2
theorem zip3_type (a b c : Value) : checkTypeCall "zip" ⟨[a, b, c], []⟩ = pure () := by kernel_rfl
theorem zip3_new (a b c : Value) : checkBuiltinCall "zip.__new__" ⟨[.type "zip", a, b, c], []⟩ = pure () := by kernel_rfl
theorem zip3_init (obj a b c : Value) : argsOk "object.__init__" ⟨[obj, a, b, c], []⟩ := by unfold argsOk; kernel_rfl
structure ZA3 (z TI TO i1 i2 i3 l1 l2 l3 : Addr) : Prop where
  TIz : TI ≠ z
  TOz : TO ≠ z
  TITO : TI ≠ TO
  i1z : i1 ≠ z
  TIi1 : TI ≠ i1
  TOi1 : TO ≠ i1
  i2z : i2 ≠ z
  TIi2 : TI ≠ i2
  TOi2 : TO ≠ i2
  i3z : i3 ≠ z
  TIi3 : TI ≠ i3
  TOi3 : TO ≠ i3
  i1i2 : i1 ≠ i2
  i1i3 : i1 ≠ i3
  i2i3 : i2 ≠ i3
  l1z : l1 ≠ z
  l1TO : l1 ≠ TO
  l1i1 : l1 ≠ i1
  l1i2 : l1 ≠ i2
  l1i3 : l1 ≠ i3
  l2z : l2 ≠ z
  l2TO : l2 ≠ TO
  l2i1 : l2 ≠ i1
  l2i2 : l2 ≠ i2
  l2i3 : l2 ≠ i3
  l3z : l3 ≠ z
  l3TO : l3 ≠ TO
  l3i1 : l3 ≠ i1
  l3i2 : l3 ≠ i2
  l3i3 : l3 ≠ i3
section
variable {prog : Program} {w : World} {A : Around} {E : Value → Shared → Prop} {s : Shared}
theorem z3_next_item {z TI TO i1 i2 i3 l1 l2 l3 : Addr} {k : Nat} {xs1 xs2 xs3 : Array Value} {f0 : Value} {f1 : Bool} {arr : Array Value} {x1 x2 x3 : Value} {Q : Value → Shared → Prop} (D : ZA3 z TI TO i1 i2 i3 l1 l2 l3) (hz : IsZipF s.heap z TI TO f0 f1) (hf0 : OwnF f0) (hTI : IsTupA s.heap TI #[.ref i1, .ref i2, .ref i3]) (hTO : IsTupA s.heap TO arr) (hsz : arr.size = 3) (h1 : s.heap.IsTupleIter i1 l1 k) (h2 : s.heap.IsTupleIter i2 l2 k) (h3 : s.heap.IsTupleIter i3 l3 k) (hl1 : s.heap.IsTuple l1 xs1) (hl2 : s.heap.IsTuple l2 xs2) (hl3 : s.heap.IsTuple l3 xs3) (hx1 : xs1[k]? = some x1) (hx2 : xs2[k]? = some x2) (hx3 : xs3[k]? = some x3)
    (hQ : ∀ h' f0' f1' arr', OwnF f0' → IsZipF h' z TI TO f0' f1' → IsTupA h' TO arr' → arr'.size = 3 → h'.IsTupleIter i1 l1 (k + 1) → h'.IsTupleIter i2 l2 (k + 1) → h'.IsTupleIter i3 l3 (k + 1) → IsTupA h' s.heap.objs.size #[x1, x2, x3] → h'.objs.size = s.heap.objs.size + 1 → (∀ c o, c ≠ z → c ≠ TO → c ≠ i1 → c ≠ i2 → c ≠ i3 → s.heap.get? c = some o → h'.get? c = some o) → Q (.ref s.heap.objs.size) { s with heap := h' }) :
    wpAny (model prog w) A (Builtin.«zip.__next__» ⟨[.ref z], []⟩) (fun fin s' => ∃ v, fin = .done (.ret v) ∧ Q v s') E s := by
  show wpAny _ _ (field (.ref z) 2 >>= _) _ _ _
  refine wpAny_bind (wpAny_field hz rfl (x := .bool false) rfl ?_)
  show wpAny _ _ (field (.ref z) 3 >>= _) _ _ _
  refine wpAny_bind (wpAny_field hz rfl (x := .ref TI) rfl ?_)
  refine wpAny_bind (wpAny_seqItems hTI rfl ?_)
  show wpAny _ _ (Builtin.SmallTypes.ownedTupleIsFree (.ref z) >>= _) _ _ _
  refine wpAny_bind (owned_any hz hf0 ?_ fun h₁ hz₁ hs₁ => ?_)
  · simp only [if_true]
    refine wpAny_bind (wpAny_rule ?_)
    refine wpAny_bind (wpAny_field hz rfl (x := .ref TO) rfl ?_)
    refine wpAny_bind (wpAny_setField_rec hz (by simp) fun h₀ hz₀ hs₀ => ?_)
    replace hz₀ : IsZipF h₀ z TI TO .ellipsis f1 := hz₀
    have K0 : ∀ c o, c ≠ z → s.heap.get? c = some o → h₀.get? c = some o := fun c o c1 e => hs₀.extBut _ _ c1 e
    have N0 : h₀.objs.size = s.heap.objs.size := hs₀.1
    have T0 : IsTupA h₀ TO arr := K0 _ _ D.TOz hTO
    have J1_0 : h₀.IsTupleIter i1 l1 k := h1.at fun o e => K0 _ o D.i1z e
    have L1_0 : h₀.IsTuple l1 xs1 := hl1.at' fun o e => K0 _ o D.l1z e
    have J2_0 : h₀.IsTupleIter i2 l2 k := h2.at fun o e => K0 _ o D.i2z e
    have L2_0 : h₀.IsTuple l2 xs2 := hl2.at' fun o e => K0 _ o D.l2z e
    have J3_0 : h₀.IsTupleIter i3 l3 k := h3.at fun o e => K0 _ o D.i3z e
    have L3_0 : h₀.IsTuple l3 xs3 := hl3.at' fun o e => K0 _ o D.l3z e
    refine wpAny_bind ?_
    simp only [List.zipIdx_cons, List.zipIdx_nil, List.forIn_cons, List.forIn_nil]
    refine wpAny_bind (wpAny_bind (wpAny_onRaise ?_))
    show wpAny _ _ (Builtin.SmallTypes.nextOf (.ref i1) >>= _) _ _ _
    refine wpAny_bind (RZ.nextOf_tuple_item J1_0 L1_0 hx1 fun g1 m1 gs1 => wpAny_pure ?_)
    have V1 : IsTupA g1 TO (arr) := gs1.extBut _ _ D.TOi1 T0
    refine wpAny_bind (wpAny_seqItems V1 rfl ?_)
    refine wpAny_bind (upSeq V1 (by simp [hsz]) fun u1 T1 us1 => ?_)
    refine wpAny_bind (wpAny_letGo (wpAny_pure ?_))
    have J1_1 : u1.IsTupleIter i1 l1 (k + 1) := m1.extBut us1.extBut D.TOi1.symm
    have L1_1 : u1.IsTuple l1 xs1 := (L1_0.extBut gs1.extBut D.l1i1).extBut us1.extBut D.l1TO
    have J2_1 : u1.IsTupleIter i2 l2 k := (J2_0.extBut gs1.extBut D.i1i2.symm).extBut us1.extBut D.TOi2.symm
    have L2_1 : u1.IsTuple l2 xs2 := (L2_0.extBut gs1.extBut D.l2i1).extBut us1.extBut D.l2TO
    have J3_1 : u1.IsTupleIter i3 l3 k := (J3_0.extBut gs1.extBut D.i1i3.symm).extBut us1.extBut D.TOi3.symm
    have L3_1 : u1.IsTuple l3 xs3 := (L3_0.extBut gs1.extBut D.l3i1).extBut us1.extBut D.l3TO
    have K1 : ∀ c o, c ≠ z → c ≠ TO → c ≠ i1 → s.heap.get? c = some o → u1.get? c = some o := fun c o c1 c2 q1 e => us1.extBut _ _ c2 (gs1.extBut _ _ q1 (K0 c o c1  e))
    have Z1 : IsZipF u1 z TI TO .ellipsis f1 := us1.extBut _ _ D.TOz.symm (gs1.extBut _ _ D.i1z.symm hz₀)
    have N1 : u1.objs.size = s.heap.objs.size := by rw [us1.1, gs1.1, N0]
    refine wpAny_bind (wpAny_bind (wpAny_onRaise ?_))
    show wpAny _ _ (Builtin.SmallTypes.nextOf (.ref i2) >>= _) _ _ _
    refine wpAny_bind (RZ.nextOf_tuple_item J2_1 L2_1 hx2 fun g2 m2 gs2 => wpAny_pure ?_)
    have V2 : IsTupA g2 TO ((arr).setIfInBounds 0 x1) := gs2.extBut _ _ D.TOi2 T1
    refine wpAny_bind (wpAny_seqItems V2 rfl ?_)
    refine wpAny_bind (upSeq V2 (by simp [hsz]) fun u2 T2 us2 => ?_)
    refine wpAny_bind (wpAny_letGo (wpAny_pure ?_))
    have J1_2 : u2.IsTupleIter i1 l1 (k + 1) := (J1_1.extBut gs2.extBut D.i1i2).extBut us2.extBut D.TOi1.symm
    have L1_2 : u2.IsTuple l1 xs1 := (L1_1.extBut gs2.extBut D.l1i2).extBut us2.extBut D.l1TO
    have J2_2 : u2.IsTupleIter i2 l2 (k + 1) := m2.extBut us2.extBut D.TOi2.symm
    have L2_2 : u2.IsTuple l2 xs2 := (L2_1.extBut gs2.extBut D.l2i2).extBut us2.extBut D.l2TO
    have J3_2 : u2.IsTupleIter i3 l3 k := (J3_1.extBut gs2.extBut D.i2i3.symm).extBut us2.extBut D.TOi3.symm
    have L3_2 : u2.IsTuple l3 xs3 := (L3_1.extBut gs2.extBut D.l3i2).extBut us2.extBut D.l3TO
    have K2 : ∀ c o, c ≠ z → c ≠ TO → c ≠ i1 → c ≠ i2 → s.heap.get? c = some o → u2.get? c = some o := fun c o c1 c2 q1 q2 e => us2.extBut _ _ c2 (gs2.extBut _ _ q2 (K1 c o c1 c2 q1 e))
    have Z2 : IsZipF u2 z TI TO .ellipsis f1 := us2.extBut _ _ D.TOz.symm (gs2.extBut _ _ D.i2z.symm Z1)
    have N2 : u2.objs.size = s.heap.objs.size := by rw [us2.1, gs2.1, N1]
    refine wpAny_bind (wpAny_bind (wpAny_onRaise ?_))
    show wpAny _ _ (Builtin.SmallTypes.nextOf (.ref i3) >>= _) _ _ _
    refine wpAny_bind (RZ.nextOf_tuple_item J3_2 L3_2 hx3 fun g3 m3 gs3 => wpAny_pure ?_)
    have V3 : IsTupA g3 TO (((arr).setIfInBounds 0 x1).setIfInBounds 1 x2) := gs3.extBut _ _ D.TOi3 T2
    refine wpAny_bind (wpAny_seqItems V3 rfl ?_)
    refine wpAny_bind (upSeq V3 (by simp [hsz]) fun u3 T3 us3 => ?_)
    refine wpAny_bind (wpAny_letGo (wpAny_pure ?_))
    have J1_3 : u3.IsTupleIter i1 l1 (k + 1) := (J1_2.extBut gs3.extBut D.i1i3).extBut us3.extBut D.TOi1.symm
    have L1_3 : u3.IsTuple l1 xs1 := (L1_2.extBut gs3.extBut D.l1i3).extBut us3.extBut D.l1TO
    have J2_3 : u3.IsTupleIter i2 l2 (k + 1) := (J2_2.extBut gs3.extBut D.i2i3).extBut us3.extBut D.TOi2.symm
    have L2_3 : u3.IsTuple l2 xs2 := (L2_2.extBut gs3.extBut D.l2i3).extBut us3.extBut D.l2TO
    have J3_3 : u3.IsTupleIter i3 l3 (k + 1) := m3.extBut us3.extBut D.TOi3.symm
    have L3_3 : u3.IsTuple l3 xs3 := (L3_2.extBut gs3.extBut D.l3i3).extBut us3.extBut D.l3TO
    have K3 : ∀ c o, c ≠ z → c ≠ TO → c ≠ i1 → c ≠ i2 → c ≠ i3 → s.heap.get? c = some o → u3.get? c = some o := fun c o c1 c2 q1 q2 q3 e => us3.extBut _ _ c2 (gs3.extBut _ _ q3 (K2 c o c1 c2 q1 q2 e))
    have Z3 : IsZipF u3 z TI TO .ellipsis f1 := us3.extBut _ _ D.TOz.symm (gs3.extBut _ _ D.i3z.symm Z2)
    have N3 : u3.objs.size = s.heap.objs.size := by rw [us3.1, gs3.1, N2]
    refine wpAny_pure ?_
    refine wpAny_bind (wpAny_seqItems T3 rfl ?_)
    have ea : ((((arr).setIfInBounds 0 x1).setIfInBounds 1 x2).setIfInBounds 2 x3) = #[x1, x2, x3] := set3 hsz
    rw [ea] at T3 ⊢
    refine wpAny_bind (wpAny_newTuple ?_)
    show wpAny _ _ (Builtin.SmallTypes.ownedTupleHandOut (.ref z) (.ref u3.objs.size) >>= _) _ _ _
    refine wpAny_bind ?_
    unfold Builtin.SmallTypes.ownedTupleHandOut
    have zlt : z < u3.objs.size := Heap.lt_size Z3
    have hz₆ : IsZipF (u3.push { cls := .type "tuple", data := .seq #[x1, x2, x3] }) z TI TO .ellipsis f1 := Heap.get?_push_of_some _ Z3
    refine wpAny_bind (wpAny_setField_rec hz₆ (by simp) fun h₇ hz₇ hs₇ => ?_)
    replace hz₇ : IsZipF h₇ z TI TO (rawInt u3.objs.size) f1 := hz₇
    refine wpAny_setField_rec hz₇ (by simp) fun h₈ hz₈ hs₈ => ?_
    replace hz₈ : IsZipF h₈ z TI TO (rawInt u3.objs.size) false := hz₈
    have up : ∀ c o, c ≠ z → u3.get? c = some o → h₈.get? c = some o := fun c o c1 e => hs₈.extBut _ _ c1 (hs₇.extBut _ _ c1 (Heap.get?_push_of_some _ e))
    have hT₈ : IsTupA h₈ u3.objs.size #[x1, x2, x3] := hs₈.extBut _ _ (Nat.ne_of_gt zlt) (hs₇.extBut _ _ (Nat.ne_of_gt zlt) (Heap.get?_push_size _ rfl))
    have hz8 : h₈.objs.size = u3.objs.size + 1 := by rw [hs₈.1, hs₇.1, Heap.size_push]
    refine wpAny_pure ⟨_, rfl, ?_⟩
    show Q (.ref u3.objs.size) _
    rw [N3] at hz₈ hT₈ hz8 ⊢
    exact hQ h₈ _ _ _ (.inr ⟨_, rfl⟩) hz₈ (up _ _ D.TOz T3) rfl (J1_3.at fun o e => up _ o D.i1z e) (J2_3.at fun o e => up _ o D.i2z e) (J3_3.at fun o e => up _ o D.i3z e) hT₈ hz8 fun c o c1 c2 q1 q2 q3 e => up c o c1 (K3 c o c1 c2 q1 q2 q3 e)
  · simp only [Bool.false_eq_true, if_false]
    have K0 : ∀ c o, c ≠ z → s.heap.get? c = some o → h₁.get? c = some o := fun c o c1 e => hs₁.extBut _ _ c1 e
    have J1_0 : h₁.IsTupleIter i1 l1 k := h1.at fun o e => K0 _ o D.i1z e
    have L1_0 : h₁.IsTuple l1 xs1 := hl1.at' fun o e => K0 _ o D.l1z e
    have J2_0 : h₁.IsTupleIter i2 l2 k := h2.at fun o e => K0 _ o D.i2z e
    have L2_0 : h₁.IsTuple l2 xs2 := hl2.at' fun o e => K0 _ o D.l2z e
    have J3_0 : h₁.IsTupleIter i3 l3 k := h3.at fun o e => K0 _ o D.i3z e
    have L3_0 : h₁.IsTuple l3 xs3 := hl3.at' fun o e => K0 _ o D.l3z e
    refine wpAny_bind ?_
    rw [← Array.forIn_toList]
    simp only [List.forIn_cons, List.forIn_nil]
    refine wpAny_bind (wpAny_bind (wpAny_holding ?_))
    show wpAny _ _ (Builtin.SmallTypes.nextOf (.ref i1) >>= _) _ _ _
    refine wpAny_bind (RZ.nextOf_tuple_item (s := { s with heap := h₁ }) J1_0 L1_0 hx1 fun g1 m1 gs1 => wpAny_pure ?_)
    refine wpAny_pure ?_
    have J1_1 : g1.IsTupleIter i1 l1 (k + 1) := m1
    have L1_1 : g1.IsTuple l1 xs1 := L1_0.extBut gs1.extBut D.l1i1
    have J2_1 : g1.IsTupleIter i2 l2 k := J2_0.extBut gs1.extBut D.i1i2.symm
    have L2_1 : g1.IsTuple l2 xs2 := L2_0.extBut gs1.extBut D.l2i1
    have J3_1 : g1.IsTupleIter i3 l3 k := J3_0.extBut gs1.extBut D.i1i3.symm
    have L3_1 : g1.IsTuple l3 xs3 := L3_0.extBut gs1.extBut D.l3i1
    refine wpAny_bind (wpAny_bind (wpAny_holding ?_))
    show wpAny _ _ (Builtin.SmallTypes.nextOf (.ref i2) >>= _) _ _ _
    refine wpAny_bind (RZ.nextOf_tuple_item (s := { s with heap := g1 }) J2_1 L2_1 hx2 fun g2 m2 gs2 => wpAny_pure ?_)
    refine wpAny_pure ?_
    have J1_2 : g2.IsTupleIter i1 l1 (k + 1) := J1_1.extBut gs2.extBut D.i1i2
    have L1_2 : g2.IsTuple l1 xs1 := L1_1.extBut gs2.extBut D.l1i2
    have J2_2 : g2.IsTupleIter i2 l2 (k + 1) := m2
    have L2_2 : g2.IsTuple l2 xs2 := L2_1.extBut gs2.extBut D.l2i2
    have J3_2 : g2.IsTupleIter i3 l3 k := J3_1.extBut gs2.extBut D.i2i3.symm
    have L3_2 : g2.IsTuple l3 xs3 := L3_1.extBut gs2.extBut D.l3i2
    refine wpAny_bind (wpAny_bind (wpAny_holding ?_))
    show wpAny _ _ (Builtin.SmallTypes.nextOf (.ref i3) >>= _) _ _ _
    refine wpAny_bind (RZ.nextOf_tuple_item (s := { s with heap := g2 }) J3_2 L3_2 hx3 fun g3 m3 gs3 => wpAny_pure ?_)
    refine wpAny_pure (wpAny_pure ?_)
    have J1_3 : g3.IsTupleIter i1 l1 (k + 1) := J1_2.extBut gs3.extBut D.i1i3
    have L1_3 : g3.IsTuple l1 xs1 := L1_2.extBut gs3.extBut D.l1i3
    have J2_3 : g3.IsTupleIter i2 l2 (k + 1) := J2_2.extBut gs3.extBut D.i2i3
    have L2_3 : g3.IsTuple l2 xs2 := L2_2.extBut gs3.extBut D.l2i3
    have J3_3 : g3.IsTupleIter i3 l3 (k + 1) := m3
    have L3_3 : g3.IsTuple l3 xs3 := L3_2.extBut gs3.extBut D.l3i3
    show wpAny _ _ (newTuple [x1, x2, x3] >>= _) _ _ _
    refine wpAny_bind (wpAny_newTuple ?_)
    have hsz' : g3.objs.size = s.heap.objs.size := by rw [gs3.1, gs2.1, gs1.1, hs₁.1]
    have hz3 : IsZipF g3 z TI TO f0 true := (gs3.extBut _ _ D.i3z.symm (gs2.extBut _ _ D.i2z.symm (gs1.extBut _ _ D.i1z.symm hz₁)))
    have hk : ∀ c o, c ≠ z → c ≠ i1 → c ≠ i2 → c ≠ i3 → s.heap.get? c = some o → g3.get? c = some o := fun c o c1 q1 q2 q3 e => (gs3.extBut _ _ q3 (gs2.extBut _ _ q2 (gs1.extBut _ _ q1 (K0 c o c1 e))))
    refine wpAny_pure ⟨_, rfl, ?_⟩
    show Q (.ref g3.objs.size) _
    have hp : IsTupA (g3.push { cls := .type "tuple", data := .seq #[x1, x2, x3] }) g3.objs.size #[x1, x2, x3] := Heap.get?_push_size _ rfl
    have hz4 : (g3.push { cls := .type "tuple", data := .seq #[x1, x2, x3] }).objs.size = g3.objs.size + 1 := Heap.size_push ..
    rw [hsz'] at hp hz4 ⊢
    exact hQ _ _ _ _ hf0 (Heap.get?_push_of_some _ hz3) (Heap.get?_push_of_some _ (hk _ _ D.TOz D.TOi1 D.TOi2 D.TOi3 hTO)) hsz (J1_3.at fun o e => Heap.get?_push_of_some _ e) (J2_3.at fun o e => Heap.get?_push_of_some _ e) (J3_3.at fun o e => Heap.get?_push_of_some _ e) hp hz4 fun c o c1 c2 q1 q2 q3 e => Heap.get?_push_of_some _ (hk c o c1 q1 q2 q3 e)
theorem z3_next_end {z TI TO i1 i2 i3 l1 l2 l3 : Addr} {k : Nat} {xs1 xs2 xs3 : Array Value} {f0 : Value} {f1 : Bool} {arr : Array Value} {Q : Fin → Shared → Prop} (hh : A.handled = none) (D : ZA3 z TI TO i1 i2 i3 l1 l2 l3) (hz : IsZipF s.heap z TI TO f0 f1) (hf0 : OwnF f0) (hTI : IsTupA s.heap TI #[.ref i1, .ref i2, .ref i3]) (hTO : IsTupA s.heap TO arr) (hsz : arr.size = 3) (h1 : s.heap.IsTupleIter i1 l1 k) (h2 : s.heap.IsTupleIter i2 l2 k) (h3 : s.heap.IsTupleIter i3 l3 k) (hl1 : s.heap.IsTuple l1 xs1) (hl2 : s.heap.IsTuple l2 xs2) (hl3 : s.heap.IsTuple l3 xs3) (hx : xs1[k]? = none)
    (hE : ∀ h' e, (∀ c o, c ≠ z → c ≠ TO → c ≠ i1 → c ≠ i2 → c ≠ i3 → s.heap.get? c = some o → h'.get? c = some o) → (∃ o, h'.get? e = some o ∧ o.cls = .type "StopIteration") → E (.ref e) { s with heap := h' }) :
    wpAny (model prog w) A (Builtin.«zip.__next__» ⟨[.ref z], []⟩) Q E s := by
  show wpAny _ _ (field (.ref z) 2 >>= _) _ _ _
  refine wpAny_bind (wpAny_field hz rfl (x := .bool false) rfl ?_)
  show wpAny _ _ (field (.ref z) 3 >>= _) _ _ _
  refine wpAny_bind (wpAny_field hz rfl (x := .ref TI) rfl ?_)
  refine wpAny_bind (wpAny_seqItems hTI rfl ?_)
  show wpAny _ _ (Builtin.SmallTypes.ownedTupleIsFree (.ref z) >>= _) _ _ _
  refine wpAny_bind (owned_any hz hf0 ?_ fun h₁ hz₁ hs₁ => ?_)
  · simp only [if_true]
    refine wpAny_bind (wpAny_rule ?_)
    refine wpAny_bind (wpAny_field hz rfl (x := .ref TO) rfl ?_)
    refine wpAny_bind (wpAny_setField_rec hz (by simp) fun h₀ hz₀ hs₀ => ?_)
    replace hz₀ : IsZipF h₀ z TI TO .ellipsis f1 := hz₀
    refine wpAny_bind ?_
    simp only [List.zipIdx_cons, List.zipIdx_nil, List.forIn_cons, List.forIn_nil]
    refine wpAny_bind (wpAny_bind (wpAny_onRaise ?_))
    show wpAny _ _ (Builtin.SmallTypes.nextOf (.ref i1) >>= _) _ _ _
    refine wpAny_bind (RZ.nextOf_tuple_end hh (h1.extBut hs₀.extBut D.i1z) (hl1.extBut hs₀.extBut D.l1z) hx fun h₂ e hs₂ he => ?_)
    obtain ⟨oe, hoe, hce⟩ := he
    have hz₂ : IsZipF h₂ z TI TO .ellipsis f1 := hs₂ _ _ D.i1z.symm hz₀
    have hez : e ≠ z := fun x => by subst x; rw [hz₂] at hoe; cases hoe; simp at hce
    refine wpAny_setField_rec hz₂ (by simp) fun h₃ _ hs₃ => hE h₃ e (fun c o c1 _ c3 _ _ x => hs₃.extBut _ _ c1 (hs₂ _ _ c3 (hs₀.extBut _ _ c1 x))) ⟨oe, hs₃.extBut _ _ hez hoe, hce⟩
  · simp only [Bool.false_eq_true, if_false]
    refine wpAny_bind ?_
    rw [← Array.forIn_toList]
    simp only [List.forIn_cons, List.forIn_nil]
    refine wpAny_bind (wpAny_bind (wpAny_holding ?_))
    show wpAny _ _ (Builtin.SmallTypes.nextOf (.ref i1) >>= _) _ _ _
    refine wpAny_bind (RZ.nextOf_tuple_end (s := { s with heap := h₁ }) hh (h1.extBut hs₁.extBut D.i1z) (hl1.extBut hs₁.extBut D.l1z) hx fun h₂ e hs₂ he => ?_)
    exact hE h₂ e (fun c o c1 _ c3 _ _ x => hs₂ _ _ c3 (hs₁.extBut _ _ c1 x)) he
theorem z3_pyNext_item {z TI TO i1 i2 i3 l1 l2 l3 : Addr} {k : Nat} {xs1 xs2 xs3 : Array Value} {f0 : Value} {f1 : Bool} {arr : Array Value} {x1 x2 x3 : Value} {Q : Option Value → Shared → Prop} (D : ZA3 z TI TO i1 i2 i3 l1 l2 l3) (hz : IsZipF s.heap z TI TO f0 f1) (hf0 : OwnF f0) (hTI : IsTupA s.heap TI #[.ref i1, .ref i2, .ref i3]) (hTO : IsTupA s.heap TO arr) (hsz : arr.size = 3) (h1 : s.heap.IsTupleIter i1 l1 k) (h2 : s.heap.IsTupleIter i2 l2 k) (h3 : s.heap.IsTupleIter i3 l3 k) (hl1 : s.heap.IsTuple l1 xs1) (hl2 : s.heap.IsTuple l2 xs2) (hl3 : s.heap.IsTuple l3 xs3) (hx1 : xs1[k]? = some x1) (hx2 : xs2[k]? = some x2) (hx3 : xs3[k]? = some x3)
    (hQ : ∀ h' f0' f1' arr', OwnF f0' → IsZipF h' z TI TO f0' f1' → IsTupA h' TO arr' → arr'.size = 3 → h'.IsTupleIter i1 l1 (k + 1) → h'.IsTupleIter i2 l2 (k + 1) → h'.IsTupleIter i3 l3 (k + 1) → IsTupA h' s.heap.objs.size #[x1, x2, x3] → h'.objs.size = s.heap.objs.size + 1 → (∀ c o, c ≠ z → c ≠ TO → c ≠ i1 → c ≠ i2 → c ≠ i3 → s.heap.get? c = some o → h'.get? c = some o) → Q (some (.ref s.heap.objs.size)) { s with heap := h' }) : wpAny (model prog w) A (pyNext (.ref z)) Q E s := by
  have hT : s.TypeIs (.ref z) "zip" := ⟨_, hz, rfl⟩
  unfold pyNext
  exact wpAny_bind (wpAny_attempt (wpAny_callSpecial?_slot (name := Str.ofString "__next__") hT F.slot_zip_next
    (wpAny_call_entry F.slot_zip_next hT F.entry_zip_next
      (z3_next_item D hz hf0 hTI hTO hsz h1 h2 h3 hl1 hl2 hl3 hx1 hx2 hx3 fun h' b0 b1 b2 b3 b4 b5 b6 b7 b8 b9 b10 b11 b12 => wpAny_pure (hQ h' b0 b1 b2 b3 b4 b5 b6 b7 b8 b9 b10 b11 b12)) (F.args_zip_next_1 _))))
theorem z3_pyNext_end {z TI TO i1 i2 i3 l1 l2 l3 : Addr} {k : Nat} {xs1 xs2 xs3 : Array Value} {f0 : Value} {f1 : Bool} {arr : Array Value} {Q : Option Value → Shared → Prop} (hh : A.handled = none) (D : ZA3 z TI TO i1 i2 i3 l1 l2 l3) (hz : IsZipF s.heap z TI TO f0 f1) (hf0 : OwnF f0) (hTI : IsTupA s.heap TI #[.ref i1, .ref i2, .ref i3]) (hTO : IsTupA s.heap TO arr) (hsz : arr.size = 3) (h1 : s.heap.IsTupleIter i1 l1 k) (h2 : s.heap.IsTupleIter i2 l2 k) (h3 : s.heap.IsTupleIter i3 l3 k) (hl1 : s.heap.IsTuple l1 xs1) (hl2 : s.heap.IsTuple l2 xs2) (hl3 : s.heap.IsTuple l3 xs3) (hx : xs1[k]? = none)
    (hQ : ∀ h', (∀ c o, c ≠ z → c ≠ TO → c ≠ i1 → c ≠ i2 → c ≠ i3 → s.heap.get? c = some o → h'.get? c = some o) → Q none { s with heap := h' }) : wpAny (model prog w) A (pyNext (.ref z)) Q E s := by
  have hT : s.TypeIs (.ref z) "zip" := ⟨_, hz, rfl⟩
  unfold pyNext
  refine wpAny_bind (wpAny_attempt (wpAny_callSpecial?_slot (name := Str.ofString "__next__") hT F.slot_zip_next
    (wpAny_call_entry F.slot_zip_next hT F.entry_zip_next (z3_next_end hh D hz hf0 hTI hTO hsz h1 h2 h3 hl1 hl2 hl3 hx fun h' e hk he => ?_) (F.args_zip_next_1 _))))
  obtain ⟨o, ho, hc⟩ := he
  refine wpAny_bind (wpAny_isInstance (T := "StopIteration") (b := true) ⟨o, ho, hc⟩ isSubtype_stop ?_)
  exact wpAny_pure (hQ _ hk)
end
abbrev zt3H1 (h : Heap) (l1 : Addr) : Heap := h.push { cls := .type "tuple_iterator", data := .fields #[.ref l1, .int 0 0] }
abbrev zt3H2 (h : Heap) (l1 l2 : Addr) : Heap := (zt3H1 h l1).push { cls := .type "tuple_iterator", data := .fields #[.ref l2, .int 0 0] }
abbrev zt3H3 (h : Heap) (l1 l2 l3 : Addr) : Heap := (zt3H2 h l1 l2).push { cls := .type "tuple_iterator", data := .fields #[.ref l3, .int 0 0] }
abbrev zt3TI (h : Heap) (l1 l2 l3 : Addr) : Heap := (zt3H3 h l1 l2 l3).push { cls := .type "tuple", data := .seq #[.ref h.objs.size, .ref (zt3H1 h l1).objs.size, .ref (zt3H2 h l1 l2).objs.size] }
abbrev zt3TO (h : Heap) (l1 l2 l3 : Addr) : Heap := (zt3TI h l1 l2 l3).push { cls := .type "tuple", data := .seq #[.none, .none, .none] }
abbrev zt3Z (h : Heap) (l1 l2 l3 : Addr) : Heap := (zt3TO h l1 l2 l3).push { cls := .type "zip", data := .fields #[.none, .bool false, .bool false, .ref (zt3H3 h l1 l2 l3).objs.size, .ref (zt3TI h l1 l2 l3).objs.size] }
theorem meets_z3_new (l1 l2 l3 : Addr) (xs1 xs2 xs3 : Array Value) :
    Meets (Builtin.«zip.__new__» ⟨[.type "zip", .ref l1, .ref l2, .ref l3], []⟩) (fun _ R s => s.heap.IsTuple l1 xs1 ∧ s.heap.IsTuple l2 xs2 ∧ s.heap.IsTuple l3 xs3 ∧
      R (.ok (.ret (.ref (zt3TO s.heap l1 l2 l3).objs.size))) { s with heap := zt3Z s.heap l1 l2 l3 }) :=
  .of_wp fun prog w A R s h => by
    obtain ⟨hp, g, d, tk, os⟩ := s; obtain ⟨hl1, hl2, hl3, h⟩ := h
    have hsub := sub_zip
    have hL1 : Heap.IsTuple (Shared.heap ⟨hp, g, d, tk, os⟩) l1 xs1 := hl1
    have hL2 : Heap.IsTuple (Shared.heap ⟨(zt3H1 hp l1), g, d, tk, os⟩) l2 xs2 := Heap.IsTuple.push (hl2) _
    have hL3 : Heap.IsTuple (Shared.heap ⟨(zt3H2 hp l1 l2), g, d, tk, os⟩) l3 xs3 := Heap.IsTuple.push (Heap.IsTuple.push (hl3) _) _
    wp_walk using wpAny_pyIter_tuple hL1, wpAny_pyIter_tuple hL2, wpAny_pyIter_tuple hL3
    exact ⟨_, rfl, h⟩
section
variable {prog : Program} {w : World} {A : Around} {E : Value → Shared → Prop} {s : Shared}
theorem call_z3 {l1 l2 l3 : Addr} {xs1 xs2 xs3 : Array Value} {Q : Value → Shared → Prop} (hl1 : s.heap.IsTuple l1 xs1) (hl2 : s.heap.IsTuple l2 xs2) (hl3 : s.heap.IsTuple l3 xs3)
    (h : ∀ h', IsZipF h' (s.heap.objs.size + 5) (s.heap.objs.size + 3) (s.heap.objs.size + 4) .none false → IsTupA h' (s.heap.objs.size + 3) #[.ref s.heap.objs.size, .ref (s.heap.objs.size + 1), .ref (s.heap.objs.size + 2)] → IsTupA h' (s.heap.objs.size + 4) #[.none, .none, .none] → h'.IsTupleIter s.heap.objs.size l1 0 → h'.IsTupleIter (s.heap.objs.size + 1) l2 0 → h'.IsTupleIter (s.heap.objs.size + 2) l3 0 → h'.objs.size = (s.heap.objs.size + 6) → (∀ c o, s.heap.get? c = some o → h'.get? c = some o) → Q (.ref (s.heap.objs.size + 5)) { s with heap := h' }) :
    wpAny (model prog w) A (call (.type "zip") [.ref l1, .ref l2, .ref l3]) Q E s := by
  refine callType_new F.called_zip (by decide) (zip3_type _ _ _) (zip3_new _ _ _) (fun obj => zip3_init obj _ _ _) F.entry_zip_new (meets_z3_new l1 l2 l3 xs1 xs2 xs3) ⟨hl1, hl2, hl3, ?_⟩
  have z1 : (zt3H1 s.heap l1).objs.size = (s.heap.objs.size + 1) := Heap.size_push ..
  have z2 : (zt3H2 s.heap l1 l2).objs.size = (s.heap.objs.size + 2) := by rw [Heap.size_push, z1]
  have z3 : (zt3H3 s.heap l1 l2 l3).objs.size = (s.heap.objs.size + 3) := by rw [Heap.size_push, z2]
  have z4 : (zt3TI s.heap l1 l2 l3).objs.size = (s.heap.objs.size + 4) := by rw [Heap.size_push, z3]
  have z5 : (zt3TO s.heap l1 l2 l3).objs.size = (s.heap.objs.size + 5) := by rw [Heap.size_push, z4]
  have z6 : (zt3Z s.heap l1 l2 l3).objs.size = (s.heap.objs.size + 6) := by rw [Heap.size_push, z5]
  have g0 : (zt3Z s.heap l1 l2 l3).get? s.heap.objs.size = some _ := Heap.get?_push_of_some _ (Heap.get?_push_of_some _ (Heap.get?_push_of_some _ (Heap.get?_push_of_some _ (Heap.get?_push_of_some _ (Heap.get?_push_size _ rfl)))))
  have g1 : (zt3Z s.heap l1 l2 l3).get? (zt3H1 s.heap l1).objs.size = some _ := Heap.get?_push_of_some _ (Heap.get?_push_of_some _ (Heap.get?_push_of_some _ (Heap.get?_push_of_some _ (Heap.get?_push_size _ rfl))))
  have g2 : (zt3Z s.heap l1 l2 l3).get? (zt3H2 s.heap l1 l2).objs.size = some _ := Heap.get?_push_of_some _ (Heap.get?_push_of_some _ (Heap.get?_push_of_some _ (Heap.get?_push_size _ rfl)))
  have g3 : (zt3Z s.heap l1 l2 l3).get? (zt3H3 s.heap l1 l2 l3).objs.size = some _ := Heap.get?_push_of_some _ (Heap.get?_push_of_some _ (Heap.get?_push_size _ rfl))
  have g4 : (zt3Z s.heap l1 l2 l3).get? (zt3TI s.heap l1 l2 l3).objs.size = some _ := Heap.get?_push_of_some _ (Heap.get?_push_size _ rfl)
  have g5 : (zt3Z s.heap l1 l2 l3).get? (zt3TO s.heap l1 l2 l3).objs.size = some _ := Heap.get?_push_size _ rfl
  show _ ∧ _
  rw [z3, z4, z5] at g5
  rw [z1, z2, z3] at g3
  rw [z4] at g4
  rw [z1] at g1
  rw [z2] at g2
  rw [z5]
  exact ⟨⟨_, g5, rfl⟩, h _ g5 g3 g4 ⟨_, g0, rfl, rfl⟩ ⟨_, g1, rfl, rfl⟩ ⟨_, g2, rfl, rfl⟩ z6 fun c o x => Heap.get?_push_of_some _ (Heap.get?_push_of_some _ (Heap.get?_push_of_some _ (Heap.get?_push_of_some _ (Heap.get?_push_of_some _ (Heap.get?_push_of_some _ (x))))))⟩
end
/-- the 3 tuples as they stand at each turn, the items in a new tuple -/
def ItS3 (K : PySem.W.Frag) (a1 a2 a3 : Addr) : It :=
  ⟨fun i H => ∃ (xs1 xs2 xs3 : List V) (x1 x2 x3 : V), SqT K H a1 xs1 ∧ SqT K H a2 xs2 ∧ SqT K H a3 xs3 ∧ xs1[i]? = some x1 ∧ xs2[i]? = some x2 ∧ xs3[i]? = some x3,
    fun i H v H' => ∃ T x1 x2 x3, v = .ref T ∧ H T = none ∧ H' = upd H T (.tup [x1, x2, x3]) ∧ (∀ ys, SqT K H a1 ys → ys[i]? = some x1) ∧ (∀ ys, SqT K H a2 ys → ys[i]? = some x2) ∧ (∀ ys, SqT K H a3 ys → ys[i]? = some x3),
    fun i H => ∃ (xs1 xs2 xs3 : List V), SqT K H a1 xs1 ∧ SqT K H a2 xs2 ∧ SqT K H a3 xs3 ∧ xs1.length ≤ i⟩
theorem turn_S3 {P : Program} {w : World} {K : PySem.W.Frag} {nm : Str} {tpos : Pos} {z TI TO i1 i2 i3 a1 a2 a3 : Addr} (D : ZA3 z TI TO i1 i2 i3 a1 a2 a3) : Turn P w K (.Name nm tpos) (ItS3 K a1 a2 a3) [z, TI, TO, i1, i2, i3] z (fun i h => ∃ f0 f1 arr, OwnF f0 ∧ IsZipF h z TI TO f0 f1 ∧ IsTupA h TI #[.ref i1, .ref i2, .ref i3] ∧ IsTupA h TO arr ∧ arr.size = 3 ∧ h.IsTupleIter i1 a1 i ∧ h.IsTupleIter i2 a2 i ∧ h.IsTupleIter i3 a3 i) where
  mem := by simp
  obj := fun i h st c hc => by
    obtain ⟨f0, f1, arr, hf0, hz, hTI, hTO, hsz, ⟨o1, e1, _, d1⟩, ⟨o2, e2, _, d2⟩, ⟨o3, e3, _, d3⟩⟩ := st
    have e' : c = z ∨ c = TI ∨ c = TO ∨ c = i1 ∨ c = i2 ∨ c = i3 := by simpa using hc
    rcases e' with q | q | q | q | q | q
    · rw [q]; exact ⟨_, hz, fun v q => nomatch q⟩
    · rw [q]; exact ⟨_, hTI, fun v q => nomatch q⟩
    · rw [q]; exact ⟨_, hTO, fun v q => nomatch q⟩
    · rw [q]; exact ⟨o1, e1, fun v q => by rw [d1] at q; cases q⟩
    · rw [q]; exact ⟨o2, e2, fun v q => by rw [d2] at q; cases q⟩
    · rw [q]; exact ⟨o3, e3, fun v q => by rw [d3] at q; cases q⟩
  keep := fun i h h' st k => by
    obtain ⟨f0, f1, arr, hf0, hz, hTI, hTO, hsz, h1, h2, h3⟩ := st
    exact ⟨f0, f1, arr, hf0, k z (by simp) _ hz, k TI (by simp) _ hTI, k TO (by simp) _ hTO, hsz, h1.at fun o q => k i1 (by simp) o q, h2.at fun o q => k i2 (by simp) o q, h3.at fun o q => k i3 (by simp) o q⟩
  item := by
    intro X hP hw hK hc i pins s σ H E I hf st hg
    subst hP hw hK
    obtain ⟨f0, f1, arr, hf0, hz, hTI, hTO, hsz, h1, h2, h3⟩ := st
    obtain ⟨xs1, xs2, xs3, x1, x2, x3, hq1, hq2, hq3, hx1, hx2, hx3⟩ := hg
    obtain ⟨its1, rv1, p1, _⟩ := I.tuple hq1
    obtain ⟨w1, hw1, rw1⟩ := rv1.get hx1
    obtain ⟨its2, rv2, p2, _⟩ := I.tuple hq2
    obtain ⟨w2, hw2, rw2⟩ := rv2.get hx2
    obtain ⟨its3, rv3, p3, _⟩ := I.tuple hq3
    obtain ⟨w3, hw3, rw3⟩ := rv3.get hx3
    have hzl : z < s.heap.objs.size := Heap.lt_size hz
    refine z3_pyNext_item D hz hf0 hTI hTO hsz h1 h2 h3 p1 p2 p3 (by simpa using hw1) (by simpa using hw2) (by simpa using hw3) fun h' f0' f1' arr' hf0' hz' TO' hsz' h1' h2' h3' hT hsz2 hk => ?_
    refine ⟨_, rfl, wpAny_pure ?_⟩
    have new : ObjOk X.prog X.w (upd H s.heap.objs.size (.tup [x1, x2, x3])) h' s.heap.objs.size (.tup [x1, x2, x3]) := ⟨by show 3 ≤ sizeLine; decide, [w1, w2, w3], .cons rw1 (.cons rw2 (.cons rw3 (.nil))), ⟨_, hT, rfl, _, rfl⟩⟩
    have I1 : Inv X pins σ (upd H s.heap.objs.size (.tup [x1, x2, x3])) { s with heap := h' } :=
      I.turnedNew (t' := s.toks) (ch := [z, TI, TO, i1, i2, i3]) (fun c o hb q => hk c o (fun q' => hb (by simp [q'])) (fun q' => hb (by simp [q'])) (fun q' => hb (by simp [q'])) (fun q' => hb (by simp [q'])) (fun q' => hb (by simp [q'])) q) hf (Nat.le_refl _) new
    refine ⟨.ref s.heap.objs.size, _, I1, rfl, ⟨_, x1, x2, x3, rfl, I.hok.fresh (Nat.le_refl _), rfl, fun l hl => by rw [I.tuple_inj hl hq1]; exact hx1, fun l hl => by rw [I.tuple_inj hl hq2]; exact hx2, fun l hl => by rw [I.tuple_inj hl hq3]; exact hx3⟩, ⟨f0', f1', arr', hf0', hz', ?_, TO', hsz', h1', h2', h3'⟩, fun c hcm => ?_⟩
    · exact hk _ _ D.TIz D.TITO D.TIi1 D.TIi2 D.TIi3 hTI
    · have hlt : c < s.heap.objs.size := by
        have e' : c = z ∨ c = TI ∨ c = TO ∨ c = i1 ∨ c = i2 ∨ c = i3 := by simpa using hcm
        rcases e' with q | q | q | q | q | q
        · rw [q]; exact hzl
        · rw [q]; exact Heap.lt_size hTI
        · rw [q]; exact Heap.lt_size hTO
        · rw [q]; obtain ⟨_, e1, _⟩ := h1; exact Heap.lt_size e1
        · rw [q]; obtain ⟨_, e1, _⟩ := h2; exact Heap.lt_size e1
        · rw [q]; obtain ⟨_, e1, _⟩ := h3; exact Heap.lt_size e1
      rw [upd_ne (Nat.ne_of_lt hlt)]
      exact (hf c hcm).1
  done := by
    intro X hP hw hK hc i pins s σ H E I hf st hg
    subst hP hw hK
    obtain ⟨f0, f1, arr, hf0, hz, hTI, hTO, hsz, h1, h2, h3⟩ := st
    obtain ⟨xs1, xs2, xs3, hq1, hq2, hq3, hend⟩ := hg
    obtain ⟨its1, rv1, p1, _⟩ := I.tuple hq1
    obtain ⟨its2, rv2, p2, _⟩ := I.tuple hq2
    obtain ⟨its3, rv3, p3, _⟩ := I.tuple hq3
    have l1 := rv1.length
    exact z3_pyNext_end (I.ok.hd hc) D hz hf0 hTI hTO hsz h1 h2 h3 p1 p2 p3 (by simp; omega) fun h' hk => ⟨rfl, I.turnedL (t' := s.toks) (ch := [z, TI, TO, i1, i2, i3]) (fun c o hb q => hk c o (fun q' => hb (by simp [q'])) (fun q' => hb (by simp [q'])) (fun q' => hb (by simp [q'])) (fun q' => hb (by simp [q'])) (fun q' => hb (by simp [q'])) q) hf⟩
  self := fun A i s Q E st h => by
    obtain ⟨f0, f1, arr, hf0, hz, _⟩ := st
    exact pyIter_zipF hz h
end Hs
namespace Hs
open PySem PySem.Spec PyProof.Rows L2

theorem vals_refs3 {a1 a2 a3 : Addr} {us : List Value} (r : Vals [.ref a1, .ref a2, .ref a3] us) : us = [.ref a1, .ref a2, .ref a3] := by
  cases r with
  | cons q r =>
    cases q
    cases r with
    | cons q r =>
      cases q
      cases r with
      | cons q r =>
        cases q
        cases r
        rfl
theorem apart3 (I a1 a2 a3 : Nat) (h1 : a1 < I) (h2 : a2 < I) (h3 : a3 < I) : ZA3 (I + 5) (I + 3) (I + 4) I (I + 1) (I + 2) a1 a2 a3 := by
  constructor <;> (refine neA ?_; omega)

def iZipS3 (K : PySem.W.Frag) (te : TE) : TI := fun σ H R => te σ H fun v H1 => ∃ (l a1 a2 a3 : Addr) (xs1 xs2 xs3 : List V), v = .ref l ∧ SqL K H1 l [.ref a1, .ref a2, .ref a3] ∧ SqT K H1 a1 xs1 ∧ SqT K H1 a2 xs2 ∧ SqT K H1 a3 xs3 ∧ R (ItS3 K a1 a2 a3) H1
theorem pi_zipS3 {X : Cx} {e : Expr} {te : TE} {p sp pos tpos : Pos} {nm : Str} (hg : Gl X "zip") (hm : X.mg "zip" = none) (he : PE X e te) (hs : starEach [.Starred e sp] X.env = [(true, eval e X.env)] := by rfl) : PI X (.Name nm tpos) (.Call (.Name "zip" p) [.Starred e sp] [] pos) (iZipS3 X.K te) := by
  refine ⟨fun pins s σ H R I h => ?_⟩
  refine Call_ (ld_blt I hg hm PyProof.Rows.boot_zip (callWith_starT (thn (he.run pins s σ H _ I h) fun v s0 ⟨y, H1, I0, ry, l, a1, a2, a3, xs1, xs2, xs3, ey, hl, hq1, hq2, hq3, q⟩ => ?_) hs))
  subst ey
  obtain rfl : v = Value.ref l := ry
  refine StX.star_lst I0 hl fun us s1 I1 rv => ?_
  obtain rfl : us = [.ref a1, .ref a2, .ref a3] := vals_refs3 rv
  obtain ⟨its1, rv1, p1, _⟩ := I1.tuple hq1
  obtain ⟨o1, ho1, _⟩ := id p1
  obtain ⟨its2, rv2, p2, _⟩ := I1.tuple hq2
  obtain ⟨o2, ho2, _⟩ := id p2
  obtain ⟨its3, rv3, p3, _⟩ := I1.tuple hq3
  obtain ⟨o3, ho3, _⟩ := id p3
  refine call_z3 (show s1.heap.IsTuple a1 its1.toArray from p1) (show s1.heap.IsTuple a2 its2.toArray from p2) (show s1.heap.IsTuple a3 its3.toArray from p3) fun h' hz hTI hTO h1 h2 h3 hsz hk => pyIter_zipF hz ?_
  have I2 : Inv X pins σ H1 { s1 with heap := h' } := I1.kept (t' := s1.toks) hk
  refine ⟨s1.heap.objs.size + 5, [s1.heap.objs.size + 5, s1.heap.objs.size + 3, s1.heap.objs.size + 4, s1.heap.objs.size, s1.heap.objs.size + 1, s1.heap.objs.size + 2], _, _, H1, rfl, I2, turn_S3 (apart3 s1.heap.objs.size a1 a2 a3 (Heap.lt_size ho1) (Heap.lt_size ho2) (Heap.lt_size ho3)), ⟨_, _, _, .inl rfl, hz, hTI, hTO, rfl, h1, h2, h3⟩, fun c hcm => ?_, q⟩
  have hle : s1.heap.objs.size ≤ c := by
    simp only [List.mem_cons, List.not_mem_nil, or_false] at hcm
    rcases hcm with rfl | rfl | rfl | rfl | rfl | rfl <;> first | exact Nat.le_refl _ | exact Nat.le_add_right _ _
  exact I1.fpOk hle (I1.hok.fresh hle)

end Hs
namespace Hs
/-! ### cutting a hull down by heights: what is left, in whole numbers -/
def dot (w h : List Int) : Int := (List.zipWith (· * ·) w h).sum
theorem dot_cons (a b : Int) (w h : List Int) : dot (a :: w) (b :: h) = a * b + dot w h := by simp [dot]
theorem dot_nil (h : List Int) : dot [] h = 0 := by simp [dot]
/-- a combination of two -/
def comb (p : List Int) (a : Int) (q : List Int) (b : Int) : List Int := List.zipWith (fun x y => x * a + y * b) p q
theorem comb_dot {a b : Int} : ∀ {p q f : List Int}, p.length = q.length → dot (comb p a q b) f = a * dot p f + b * dot q f
  | [], [], f, _ => by simp [comb, dot]
  | x :: p, y :: q, [], _ => by simp [comb, dot]
  | x :: p, y :: q, z :: f, h => by
    have ih := comb_dot (a := a) (b := b) (f := f) (Nat.succ.inj h)
    have e : comb (x :: p) a (y :: q) b = (x * a + y * b) :: comb p a q b := rfl
    rw [e, dot_cons, dot_cons, dot_cons, ih]
    grind
/-- f and h mixed -/
theorem mix_dot {a b : Int} : ∀ {w f h : List Int}, f.length = h.length → dot w (comb f a h b) = a * dot w f + b * dot w h
  | [], f, h, _ => by simp [dot]
  | x :: w, [], [], _ => by simp [comb, dot]
  | x :: w, y :: f, z :: h, e => by
    have ih := mix_dot (w := w) (a := a) (b := b) (Nat.succ.inj e)
    have e2 : comb (y :: f) a (z :: h) b = (y * a + z * b) :: comb f a h b := rfl
    rw [e2, dot_cons, dot_cons, dot_cons, ih]
    grind
theorem comb_len {p q : List Int} {a b : Int} (h : p.length = q.length) : (comb p a q b).length = p.length := by simp [comb, h]
def gl (g : Int) : List Int → Int
  | [] => g
  | w :: ws => gl (Int.gcd g w : Int) ws
theorem gl_nn : ∀ {ws : List Int} {g : Int}, 0 ≤ g → 0 ≤ gl g ws
  | [], g, h => h
  | w :: ws, g, _ => gl_nn (ws := ws) (g := (Int.gcd g w : Int)) (by omega)
theorem gl_dvd : ∀ {ws : List Int} {g : Int}, gl g ws ∣ g ∧ ∀ w ∈ ws, gl g ws ∣ w
  | [], g => ⟨Int.dvd_refl g, fun w hw => by cases hw⟩
  | v :: ws, g => by
    obtain ⟨h1, h2⟩ := gl_dvd (ws := ws) (g := (Int.gcd g v : Int))
    refine ⟨Int.dvd_trans h1 (Int.gcd_dvd_left ..), fun w hw => ?_⟩
    rcases List.mem_cons.mp hw with rfl | hw
    · exact Int.dvd_trans h1 (Int.gcd_dvd_right ..)
    · exact h2 w hw
theorem gl_ne {ws : List Int} {w : Int} (hw : w ∈ ws) (h : w ≠ 0) : gl 0 ws ≠ 0 := fun e => by
  have := (gl_dvd (ws := ws) (g := 0)).2 w hw
  rw [e] at this
  exact h (Int.zero_dvd.mp this)
theorem div_dot {g : Int} : ∀ {ws f : List Int}, (∀ w ∈ ws, g ∣ w) → g * dot (ws.map (·.fdiv g)) f = dot ws f
  | [], f, _ => by simp [dot]
  | w :: ws, [], _ => by simp [dot]
  | w :: ws, z :: f, h => by
    have ih := div_dot (f := f) fun v hv => h v (List.mem_cons_of_mem _ hv)
    have hw := h w (List.mem_cons_self ..)
    have e : g * w.fdiv g = w := by rw [Int.fdiv_eq_ediv_of_dvd hw, Int.mul_ediv_cancel' hw]
    rw [List.map_cons, dot_cons, dot_cons, ← ih]
    generalize w.fdiv g = x at e
    rw [← e]
    grind
/-- the point between prev and p at which the height is 0 -/
def mid (prev : List Int) (a : Int) (p : List Int) (b : Int) : List Int := comb prev (b.natAbs : Int) p (a.natAbs : Int)
def betw (prev : List Int) (a : Int) (p : List Int) (b : Int) : List Int := (mid prev a p b).map (·.fdiv (gl 0 (mid prev a p b)))
def ones (m : Nat) : List Int := List.replicate m 1
theorem dot_ones : ∀ {w : List Int}, dot w (ones w.length) = w.sum
  | [] => by simp [dot]
  | x :: w => by
    have e : ones (x :: w).length = 1 :: ones w.length := rfl
    rw [e, dot_cons, dot_ones, List.sum_cons, Int.mul_one]
theorem sum_nz : ∀ {ws : List Int}, ws.sum ≠ 0 → ∃ w ∈ ws, w ≠ 0
  | [], h => absurd rfl h
  | x :: ws, h => by
    by_cases hx : x = 0
    · rw [List.sum_cons, hx, Int.zero_add] at h
      obtain ⟨w, h1, h2⟩ := sum_nz h
      exact ⟨w, List.mem_cons_of_mem _ h1, h2⟩
    · exact ⟨x, List.mem_cons_self .., hx⟩
/-- weights: as many as m, none below 0, not all 0 -/
structure Wt (m : Nat) (u : List Int) : Prop where
  len : u.length = m
  nn : ∀ x ∈ u, 0 ≤ x
  pos : 0 < dot u (ones m)
/-- weights whose point is at height 0 and more by all of hs -/
def InS (m : Nat) (hs : List (List Int)) (u : List Int) : Prop := Wt m u ∧ ∀ h ∈ hs, 0 ≤ dot u h
theorem zip_nn {a b : Int} (ha : 0 ≤ a) (hb : 0 ≤ b) : ∀ {p q : List Int}, (∀ x ∈ p, 0 ≤ x) → (∀ x ∈ q, 0 ≤ x) → ∀ x ∈ comb p a q b, 0 ≤ x
  | [], _, _, _, x, h => by simp [comb] at h
  | _ :: _, [], _, _, x, h => by simp [comb] at h
  | y :: p, z :: q, h1, h2, x, h => by
    have e : comb (y :: p) a (z :: q) b = (y * a + z * b) :: comb p a q b := rfl
    rw [e] at h
    rcases List.mem_cons.mp h with rfl | h
    · have e1 := Int.mul_nonneg (h1 y (List.mem_cons_self ..)) ha
      have e2 := Int.mul_nonneg (h2 z (List.mem_cons_self ..)) hb
      omega
    · exact zip_nn ha hb (fun w hw => h1 w (List.mem_cons_of_mem _ hw)) (fun w hw => h2 w (List.mem_cons_of_mem _ hw)) x h
theorem opp {a b : Int} (h : b * a < 0) : (a < 0 ∧ 0 < b) ∨ (0 < a ∧ b < 0) := by
  rcases Int.lt_trichotomy a 0 with h1 | h1 | h1
  · refine .inl ⟨h1, Decidable.byContradiction fun h2 => ?_⟩
    have := Int.mul_nonneg_of_nonpos_of_nonpos (a := b) (b := a) (by omega) (by omega)
    omega
  · rw [h1, Int.mul_zero] at h
    omega
  · refine .inr ⟨h1, Decidable.byContradiction fun h2 => ?_⟩
    have := Int.mul_nonneg (a := b) (b := a) (by omega) (by omega)
    omega
/-- the point between: what it is by any functional -/
theorem betw_ok {m : Nat} {prev p : List Int} {a b : Int} (hp : Wt m prev) (hq : Wt m p) (h : b * a < 0) : Wt m (betw prev a p b) ∧ ∃ g : Int, 0 < g ∧ gl 0 (mid prev a p b) = g ∧ ∀ f : List Int, g * dot (betw prev a p b) f = (b.natAbs : Int) * dot prev f + (a.natAbs : Int) * dot p f := by
  have hl : prev.length = p.length := hp.len.trans hq.len.symm
  have nn : ∀ x ∈ mid prev a p b, 0 ≤ x := zip_nn (by omega) (by omega) hp.nn hq.nn
  have ml : (mid prev a p b).length = m := (comb_len hl).trans hp.len
  have md : ∀ f, dot (mid prev a p b) f = (b.natAbs : Int) * dot prev f + (a.natAbs : Int) * dot p f := fun f => comb_dot hl
  have ab : 0 < (b.natAbs : Int) ∧ 0 < (a.natAbs : Int) := by rcases opp h with q | q <;> omega
  have mp : 0 < dot (mid prev a p b) (ones m) := by
    rw [md]
    have e1 := Int.mul_pos ab.1 hp.pos
    have e2 := Int.mul_pos ab.2 hq.pos
    omega
  have gn : gl 0 (mid prev a p b) ≠ 0 := by
    rw [← ml, dot_ones] at mp
    obtain ⟨w, h1, h2⟩ := sum_nz (ws := mid prev a p b) (by omega)
    exact gl_ne h1 h2
  have g0 := gl_nn (ws := mid prev a p b) (g := 0) (Int.le_refl 0)
  have dv := (gl_dvd (ws := mid prev a p b) (g := 0)).2
  have key : ∀ f, gl 0 (mid prev a p b) * dot (betw prev a p b) f = (b.natAbs : Int) * dot prev f + (a.natAbs : Int) * dot p f := fun f => by rw [← md f]; exact div_dot dv
  refine ⟨⟨by rw [betw, List.length_map, ml], fun x hx => ?_, ?_⟩, _, by omega, rfl, key⟩
  · obtain ⟨y, hy, rfl⟩ := List.mem_map.mp hx
    exact Int.fdiv_nonneg (nn y hy) g0
  · have e := key (ones m)
    rw [← md] at e
    rw [← e] at mp
    exact Int.pos_of_mul_pos_right mp (by omega)
/-! ### changes of sign around -/
/-- whether two are unlike, as a number -/
def nq (a b : Bool) : Nat := (a != b).toNat
theorem nq_self (a : Bool) : nq a a = 0 := by cases a <;> rfl
def chg (b : Bool) : List Bool → Nat
  | [] => 0
  | c :: cs => nq b c + chg c cs
def lastD {α : Type} (d : α) : List α → α
  | [] => d
  | x :: xs => lastD x xs
theorem lastD_app {α : Type} {d x : α} : ∀ {xs : List α}, lastD d (xs ++ [x]) = x
  | [] => rfl
  | y :: ys => lastD_app (xs := ys)
theorem lastD_app2 {α : Type} {d : α} : ∀ {xs ys : List α}, lastD d (xs ++ ys) = lastD (lastD d xs) ys
  | [], ys => rfl
  | y :: xs, ys => lastD_app2 (d := y) (xs := xs)
theorem lastD_map {α β : Type} {f : α → β} {d : α} : ∀ {xs : List α}, lastD (f d) (xs.map f) = f (lastD d xs)
  | [] => rfl
  | y :: ys => lastD_map (d := y) (xs := ys)
theorem chg_app {b : Bool} : ∀ {xs ys : List Bool}, chg b (xs ++ ys) = chg b xs + chg (lastD b xs) ys
  | [], ys => by simp [chg, lastD]
  | x :: xs, ys => by
    have ih := chg_app (b := x) (xs := xs) (ys := ys)
    simp only [List.cons_append, chg, lastD, ih]
    omega
theorem chg_tri {b c : Bool} : ∀ {xs : List Bool}, chg b xs ≤ nq b c + chg c xs
  | [] => by simp [chg]
  | x :: xs => by
    simp only [chg]
    cases b <;> cases c <;> cases x <;> simp [nq] <;> omega
/-- closed: from b through xs and on to c -/
theorem chg_filter {α : Type} {f : α → Bool} {q : α → Bool} {c : Bool} : ∀ {xs : List α} {b : Bool}, chg b ((xs.filter q).map f) + nq (lastD b ((xs.filter q).map f)) c ≤ chg b (xs.map f) + nq (lastD b (xs.map f)) c
  | [], b => Nat.le_refl _
  | x :: xs, b => by
    cases hq : q x with
    | true =>
      rw [List.filter_cons_of_pos hq]
      have ih := chg_filter (f := f) (q := q) (c := c) (xs := xs) (b := f x)
      simp only [List.map_cons, chg, lastD]
      omega
    | false =>
      rw [List.filter_cons_of_neg (by rw [hq]; decide)]
      have ih := chg_filter (f := f) (q := q) (c := c) (xs := xs) (b := f x)
      have t : chg b ((xs.filter q).map f) + nq (lastD b ((xs.filter q).map f)) c ≤ nq b (f x) + (chg (f x) ((xs.filter q).map f) + nq (lastD (f x) ((xs.filter q).map f)) c) := by
        cases hl : (xs.filter q).map f with
        | nil =>
          simp only [chg, lastD]
          cases b <;> cases c <;> cases f x <;> simp [nq]
        | cons y ys =>
          simp only [chg, lastD]
          generalize nq (lastD y ys) c = k
          generalize chg y ys = k2
          cases b <;> cases f x <;> cases y <;> simp [nq] <;> omega
      simp only [List.map_cons, chg, lastD]
      omega
/-- how often the sign of f changes around the points -/
def pos (f p : List Int) : Bool := decide (0 < dot p f)
def around (f : List Int) (pts : List (List Int)) : Nat := chg (pos f (lastD [] pts)) (pts.map (pos f))
/-! ### one cut -/
def emit (h prev p : List Int) : List (List Int) := (if dot p h * dot prev h < 0 then [betw prev (dot prev h) p (dot p h)] else []) ++ (if 0 ≤ dot p h then [p] else [])
def cutL (h prev : List Int) : List (List Int) → List (List Int)
  | [] => []
  | p :: ps => emit h prev p ++ cutL h p ps
def cutA (h : List Int) (pts : List (List Int)) : List (List Int) := cutL h (lastD [] pts) pts
theorem cutL_snoc {h p : List Int} : ∀ {prev : List Int} {ps : List (List Int)}, cutL h prev (ps ++ [p]) = cutL h prev ps ++ emit h (lastD prev ps) p
  | prev, [] => by simp [cutL, lastD]
  | prev, q :: ps => by
    have ih := cutL_snoc (h := h) (p := p) (prev := q) (ps := ps)
    simp only [List.cons_append, cutL, lastD, ih, List.append_assoc]
/-- .. the same, nothing left out -/
def ins (h prev : List Int) : List (List Int) → List (List Int)
  | [] => []
  | p :: ps => (if dot p h * dot prev h < 0 then [betw prev (dot prev h) p (dot p h)] else []) ++ p :: ins h p ps
theorem betw_h {m : Nat} {prev p h : List Int} (hp : Wt m prev) (hq : Wt m p) (hc : dot p h * dot prev h < 0) : dot (betw prev (dot prev h) p (dot p h)) h = 0 := by
  obtain ⟨_, g, g0, _, k⟩ := betw_ok hp hq hc
  have e := k h
  have z : ((dot p h).natAbs : Int) * dot prev h + ((dot prev h).natAbs : Int) * dot p h = 0 := by
    rcases opp hc with ⟨h1, h2⟩ | ⟨h1, h2⟩
    · have e1 : ((dot p h).natAbs : Int) = dot p h := by omega
      have e2 : ((dot prev h).natAbs : Int) = -dot prev h := by omega
      rw [e1, e2]
      grind
    · have e1 : ((dot p h).natAbs : Int) = -dot p h := by omega
      have e2 : ((dot prev h).natAbs : Int) = dot prev h := by omega
      rw [e1, e2]
      grind
  rw [z] at e
  rcases Int.mul_eq_zero.mp e with q | q
  · omega
  · exact q
theorem cut_ins {m : Nat} {h : List Int} : ∀ {prev : List Int} {ps : List (List Int)}, Wt m prev → (∀ p ∈ ps, Wt m p) → cutL h prev ps = (ins h prev ps).filter fun p => decide (0 ≤ dot p h)
  | prev, [], _, _ => rfl
  | prev, p :: ps, h1, h2 => by
    have hp := h2 p (List.mem_cons_self ..)
    have ih := cut_ins (h := h) hp fun q hq => h2 q (List.mem_cons_of_mem _ hq)
    simp only [cutL, ins, emit, ih, List.filter_append]
    have e1 : List.filter (fun p => decide (0 ≤ dot p h)) (if dot p h * dot prev h < 0 then [betw prev (dot prev h) p (dot p h)] else []) = (if dot p h * dot prev h < 0 then [betw prev (dot prev h) p (dot p h)] else []) := by
      split
      · rename_i hc
        rw [List.filter_cons_of_pos (by rw [betw_h h1 hp hc]; rfl)]
        rfl
      · rfl
    rw [e1, List.append_assoc]
    congr 1
    by_cases hz : 0 ≤ dot p h
    · rw [if_pos hz, List.filter_cons_of_pos (p := fun p => decide (0 ≤ dot p h)) (decide_eq_true hz)]
      rfl
    · rw [if_neg hz, List.filter_cons_of_neg (p := fun p => decide (0 ≤ dot p h)) (by rw [decide_eq_false hz]; decide)]
      rfl
theorem ins_last {h : List Int} : ∀ {prev d : List Int} {ps : List (List Int)}, ps ≠ [] → lastD d (ins h prev ps) = lastD d ps
  | prev, d, [], h => absurd rfl h
  | prev, d, [p], _ => by
    simp only [ins]
    rw [lastD_app2]
    rfl
  | prev, d, p :: q :: ps, _ => by
    have ih := ins_last (h := h) (prev := p) (d := p) (ps := q :: ps) (by simp)
    simp only [ins]
    rw [lastD_app2]
    exact ih
/-- a point between has the sign of one of both -/
theorem betw_pos {m : Nat} {prev p f : List Int} {a b : Int} (hp : Wt m prev) (hq : Wt m p) (h : b * a < 0) (e : pos f prev = pos f p) : pos f (betw prev a p b) = pos f p := by
  obtain ⟨_, g, g0, _, k⟩ := betw_ok hp hq h
  have kf := k f
  have ab : 0 < (b.natAbs : Int) ∧ 0 < (a.natAbs : Int) := by rcases opp h with q | q <;> omega
  unfold pos at e ⊢
  by_cases h1 : 0 < dot p f
  · have h2 : 0 < dot prev f := by
      rw [decide_eq_true h1] at e
      exact of_decide_eq_true e
    have e1 := Int.mul_pos ab.1 h2
    have e2 := Int.mul_pos ab.2 h1
    have : 0 < dot (betw prev a p b) f := Int.pos_of_mul_pos_right (a := g) (by omega) (by omega)
    rw [decide_eq_true h1, decide_eq_true this]
  · have h2 : ¬ 0 < dot prev f := by
      rw [decide_eq_false h1] at e
      exact of_decide_eq_false e
    have e1 := Int.mul_nonneg_of_nonpos_of_nonpos (a := -(b.natAbs : Int)) (b := dot prev f) (by omega) (by omega)
    have e2 := Int.mul_nonneg_of_nonpos_of_nonpos (a := -(a.natAbs : Int)) (b := dot p f) (by omega) (by omega)
    rw [Int.neg_mul] at e1 e2
    have : ¬ 0 < dot (betw prev a p b) f := fun q => by
      have := Int.mul_pos g0 q
      omega
    rw [decide_eq_false h1, decide_eq_false this]
theorem ins_chg {m : Nat} {h f : List Int} : ∀ {prev : List Int} {ps : List (List Int)}, Wt m prev → (∀ p ∈ ps, Wt m p) → chg (pos f prev) ((ins h prev ps).map (pos f)) = chg (pos f prev) (ps.map (pos f))
  | prev, [], _, _ => rfl
  | prev, p :: ps, h1, h2 => by
    have hp := h2 p (List.mem_cons_self ..)
    have ih := ins_chg (h := h) (f := f) hp fun q hq => h2 q (List.mem_cons_of_mem _ hq)
    simp only [ins]
    split
    · rename_i hc
      simp only [List.cons_append, List.nil_append, List.map_cons, chg, ih]
      by_cases e : pos f prev = pos f p
      · rw [betw_pos h1 hp hc e, nq_self]
        omega
      · cases pos f (betw prev (dot prev h) p (dot p h)) <;> cases hb : pos f prev <;> cases hd : pos f p <;> simp_all [nq]
    · simp only [List.nil_append, List.map_cons, chg, ih]
theorem lastD_mem {α : Type} {d : α} : ∀ {xs : List α}, xs ≠ [] → lastD d xs ∈ xs
  | [], h => absurd rfl h
  | [x], _ => List.mem_cons_self ..
  | x :: y :: xs, _ => List.mem_cons_of_mem _ (lastD_mem (d := x) (xs := y :: xs) (by simp))
theorem lastD_ne {α : Type} {d e : α} : ∀ {xs : List α}, xs ≠ [] → lastD d xs = lastD e xs
  | [], h => absurd rfl h
  | x :: xs, _ => rfl
theorem cut_around {m : Nat} {h f : List Int} {pts : List (List Int)} (hw : ∀ p ∈ pts, Wt m p) : around f (cutA h pts) ≤ around f pts := by
  by_cases hn : pts = []
  · subst hn
    exact Nat.le_refl _
  · have hl := hw _ (lastD_mem (d := []) hn)
    unfold around cutA
    rw [cut_ins hl hw]
    generalize hL : lastD [] pts = L at hl ⊢
    have e1 := ins_chg (h := h) (f := f) hl hw
    rw [← e1]
    have e2 := chg_filter (f := pos f) (q := fun p => decide (0 ≤ dot p h)) (c := pos f L) (xs := ins h L pts) (b := pos f L)
    have e3 : lastD (pos f L) ((ins h L pts).map (pos f)) = pos f L := by
      rw [lastD_map, ins_last hn, lastD_ne (e := []) hn, hL]
    rw [e3, nq_self] at e2
    by_cases hf : (ins h L pts).filter (fun p => decide (0 ≤ dot p h)) = []
    · rw [hf]
      exact Nat.zero_le _
    · have e4 : lastD (pos f L) (((ins h L pts).filter fun p => decide (0 ≤ dot p h)).map (pos f)) = pos f (lastD [] ((ins h L pts).filter fun p => decide (0 ≤ dot p h))) := by rw [lastD_map, lastD_ne (e := []) hf]
      rw [e4] at e2
      have e5 := chg_tri (b := pos f (lastD [] ((ins h L pts).filter fun p => decide (0 ≤ dot p h)))) (c := pos f L) (xs := ((ins h L pts).filter fun p => decide (0 ≤ dot p h)).map (pos f))
      omega
end Hs
namespace Hs
/-! ### what the cut keeps: the hull, told by functionals -/
/-- consecutive around: no crossing of the height 0 but at a point where g is above 0 -/
def Edge (h g prev p : List Int) : Prop := (dot p h * dot prev h < 0 → 0 < ((dot p h).natAbs : Int) * dot prev g + ((dot prev h).natAbs : Int) * dot p g) ∧ (dot p h = 0 → 0 < dot p g)
def EdgesL (h g prev : List Int) : List (List Int) → Prop
  | [] => True
  | p :: ps => Edge h g prev p ∧ EdgesL h g p ps
theorem edges_app {h g : List Int} : ∀ {prev : List Int} {xs ys : List (List Int)}, EdgesL h g prev (xs ++ ys) → EdgesL h g prev xs ∧ EdgesL h g (lastD prev xs) ys
  | prev, [], ys, e => ⟨trivial, e⟩
  | prev, x :: xs, ys, e => ⟨⟨e.1, (edges_app (xs := xs) e.2).1⟩, (edges_app (xs := xs) e.2).2⟩
/-- on one side of the height, with g nowhere above 0, one stays there -/
theorem walkP {h g : List Int} : ∀ {p : List Int} {xs : List (List Int)}, EdgesL h g p xs → 0 < dot p h → ¬ 0 < dot p g → (∀ q ∈ xs, ¬ 0 < dot q g) → 0 < dot (lastD p xs) h
  | p, [], _, h1, _, _ => h1
  | p, q :: xs, e, h1, h2, h3 => by
    have hq := h3 q (List.mem_cons_self ..)
    refine walkP (p := q) (xs := xs) e.2 ?_ hq fun r hr => h3 r (List.mem_cons_of_mem _ hr)
    rcases Int.lt_trichotomy (dot q h) 0 with z | z | z
    · have := e.1.1 (Int.mul_neg_of_neg_of_pos z h1)
      have e1 := Int.mul_nonneg_of_nonpos_of_nonpos (a := -((dot q h).natAbs : Int)) (b := dot p g) (by omega) (by omega)
      have e2 := Int.mul_nonneg_of_nonpos_of_nonpos (a := -((dot p h).natAbs : Int)) (b := dot q g) (by omega) (by omega)
      rw [Int.neg_mul] at e1 e2
      omega
    · exact absurd (e.1.2 z) hq
    · exact z
theorem walkN {h g : List Int} : ∀ {p : List Int} {xs : List (List Int)}, EdgesL h g p xs → dot p h < 0 → ¬ 0 < dot p g → (∀ q ∈ xs, ¬ 0 < dot q g) → dot (lastD p xs) h < 0
  | p, [], _, h1, _, _ => h1
  | p, q :: xs, e, h1, h2, h3 => by
    have hq := h3 q (List.mem_cons_self ..)
    refine walkN (p := q) (xs := xs) e.2 ?_ hq fun r hr => h3 r (List.mem_cons_of_mem _ hr)
    rcases Int.lt_trichotomy (dot q h) 0 with z | z | z
    · exact z
    · exact absurd (e.1.2 z) hq
    · have := e.1.1 (Int.mul_neg_of_pos_of_neg z h1)
      have e1 := Int.mul_nonneg_of_nonpos_of_nonpos (a := -((dot q h).natAbs : Int)) (b := dot p g) (by omega) (by omega)
      have e2 := Int.mul_nonneg_of_nonpos_of_nonpos (a := -((dot p h).natAbs : Int)) (b := dot q g) (by omega) (by omega)
      rw [Int.neg_mul] at e1 e2
      omega
theorem chg_T : ∀ {l : List Bool}, true ∈ l → 2 ≤ chg false (l ++ [false])
  | [], h => by cases h
  | true :: l, _ => by
    simp only [List.cons_append, chg]
    have : ∀ {l : List Bool}, 1 ≤ chg true (l ++ [false]) := fun {l} => by
      induction l with
      | nil => simp [chg, nq]
      | cons x l ih =>
        simp only [List.cons_append, chg]
        cases x with
        | true => omega
        | false => simp [nq] <;> omega
    have := this (l := l)
    simp [nq]
    omega
  | false :: l, h => by
    have := chg_T (l := l) (by simpa using h)
    simp only [List.cons_append, chg]
    omega
/-- around four and more, if a and b are no T and both ways between them there is one -/
theorem four {f : List Int → Bool} {l1 l2 l3 : List (List Int)} {a b d : List Int} (ha : f a = false) (hb : f b = false) (h2 : true ∈ l2.map f) (h3 : true ∈ (l3 ++ l1).map f) : 4 ≤ chg (f (lastD d (l1 ++ a :: (l2 ++ b :: l3)))) ((l1 ++ a :: (l2 ++ b :: l3)).map f) := by
  have e0 : lastD d (l1 ++ a :: (l2 ++ b :: l3)) = lastD b l3 := by
    rw [lastD_app2]
    show lastD a (l2 ++ b :: l3) = _
    rw [lastD_app2]
    rfl
  rw [e0]
  have s1 : (l1 ++ a :: (l2 ++ b :: l3)).map f = (l1.map f ++ [f a]) ++ ((l2.map f ++ [f b]) ++ l3.map f) := by simp
  rw [s1, chg_app (xs := l1.map f ++ [f a]), lastD_app, chg_app (xs := l2.map f ++ [f b]), lastD_app, ha, hb]
  have k1 := chg_T h2
  have k2 := chg_T h3
  rw [List.map_append, List.append_assoc, chg_app (xs := l3.map f)] at k2
  have e3 : f (lastD b l3) = lastD false (l3.map f) := by rw [← hb, lastD_map]
  rw [e3]
  omega
/-- the pair: what is between a above and b below is above by f -/
theorem pair_ok {m : Nat} {h f : List Int} {pts : List (List Int)} {a b : List Int} (hfl : f.length = h.length) (hV : ∀ g : List Int, g.length = h.length → around g pts ≤ 2) (hE : EdgesL h f (lastD [] pts) pts) (ha : a ∈ pts) (hb : b ∈ pts) (h1 : 0 < dot a h) (h2 : dot b h < 0) : 0 < dot a h * dot b f - dot b h * dot a f := by
  apply Decidable.byContradiction
  intro hn
  -- the functional that is 0 at a and not above 0 at b
  have gd : ∀ w, dot w (comb f (dot a h) h (-dot a f)) = dot a h * dot w f + -dot a f * dot w h := fun w => mix_dot hfl
  have gl : (comb f (dot a h) h (-dot a f)).length = h.length := (comb_len hfl).trans hfl
  generalize comb f (dot a h) h (-dot a f) = g at gd gl
  have ga : ¬ 0 < dot a g := by
    rw [gd]
    have : dot a h * dot a f + -dot a f * dot a h = 0 := by grind
    omega
  have gb : ¬ 0 < dot b g := by
    rw [gd]
    have : dot a h * dot b f + -dot a f * dot b h = dot a h * dot b f - dot b h * dot a f := by grind
    omega
  have eg : ∀ {prev : List Int} {xs : List (List Int)}, EdgesL h f prev xs → EdgesL h g prev xs := by
    intro prev xs
    induction xs generalizing prev with
    | nil => exact fun _ => trivial
    | cons p ps ih =>
      rintro ⟨⟨c1, c2⟩, r⟩
      refine ⟨⟨fun hc => ?_, fun hz => ?_⟩, ih r⟩
      · have e := Int.mul_pos h1 (c1 hc)
        rw [gd, gd]
        have z : ((dot p h).natAbs : Int) * dot prev h + ((dot prev h).natAbs : Int) * dot p h = 0 := by
          rcases opp hc with ⟨q1, q2⟩ | ⟨q1, q2⟩
          · have e1 : ((dot p h).natAbs : Int) = dot p h := by omega
            have e2 : ((dot prev h).natAbs : Int) = -dot prev h := by omega
            rw [e1, e2]
            grind
          · have e1 : ((dot p h).natAbs : Int) = -dot p h := by omega
            have e2 : ((dot prev h).natAbs : Int) = dot prev h := by omega
            rw [e1, e2]
            grind
        generalize ((dot p h).natAbs : Int) = x at e z ⊢
        generalize ((dot prev h).natAbs : Int) = y at e z ⊢
        have : x * (dot a h * dot prev f + -dot a f * dot prev h) + y * (dot a h * dot p f + -dot a f * dot p h) = dot a h * (x * dot prev f + y * dot p f) + -dot a f * (x * dot prev h + y * dot p h) := by grind
        rw [this, z, Int.mul_zero]
        omega
      · have e := Int.mul_pos h1 (c2 hz)
        rw [gd, hz]
        omega
  have hE2 := eg hE
  have hV2 := hV g gl
  have fa : pos g a = false := decide_eq_false ga
  have fb : pos g b = false := decide_eq_false gb
  have tr : ∀ {xs : List (List Int)}, ¬ (∀ q ∈ xs, ¬ 0 < dot q g) → true ∈ xs.map (pos g) := fun {xs} hx => by
    refine Decidable.byContradiction fun hh => hx fun q hq hq2 => hh ?_
    exact List.mem_map.mpr ⟨q, hq, decide_eq_true hq2⟩
  have ne : a ≠ b := fun z => by
    rw [z] at h1
    omega
  obtain ⟨l1, r, rfl⟩ := List.append_of_mem ha
  unfold around at hV2
  -- the cut at a: b stands ahead of it or behind
  rcases List.mem_append.mp hb with hb1 | hb1
  · obtain ⟨m1, m2, rfl⟩ := List.append_of_mem hb1
    -- m1 ++ b :: (m2 ++ a :: r)
    have sh : m1 ++ b :: m2 ++ a :: r = m1 ++ b :: (m2 ++ a :: r) := by simp
    rw [sh] at hV2 hE2
    have k := edges_app hE2
    have k2 := edges_app (xs := m2) k.2.2
    have hl : lastD [] (m1 ++ b :: (m2 ++ a :: r)) = lastD a r := by
      rw [lastD_app2]
      show lastD b (m2 ++ a :: r) = _
      rw [lastD_app2]
      rfl
    have t2 : true ∈ m2.map (pos g) := tr fun hx => by
      have := walkN k2.1 h2 gb hx
      have q := k2.2.1.1
      have w := walkN (p := b) (xs := m2 ++ [a]) (by
        have := edges_app (xs := m2 ++ [a]) (ys := r) (prev := b) (h := h) (g := g) (by rw [List.append_assoc]; exact k.2.2)
        exact this.1) h2 gb (fun q hq => by
          rcases List.mem_append.mp hq with hq | hq
          · exact hx q hq
          · rw [List.mem_singleton.mp hq]
            exact ga)
      rw [lastD_app] at w
      omega
    have t3 : true ∈ (r ++ m1).map (pos g) := tr fun hx => by
      have w1 := walkP (p := a) (xs := r) k2.2.2 h1 ga fun q hq => hx q (List.mem_append_left _ hq)
      have ng : ¬ 0 < dot (lastD a r) g := by
        by_cases hr : r = []
        · rw [hr]
          exact ga
        · exact hx _ (List.mem_append_left _ (lastD_mem hr))
      have k0 : EdgesL h g (lastD a r) (m1 ++ [b]) := by
        rw [hl] at hE2
        have := edges_app (xs := m1 ++ [b]) (ys := m2 ++ a :: r) (h := h) (g := g) (prev := lastD a r) (by rw [List.append_assoc]; exact hE2)
        exact this.1
      have w2 := walkP k0 w1 ng fun q hq => by
        rcases List.mem_append.mp hq with hq | hq
        · exact hx q (List.mem_append_right _ hq)
        · rw [List.mem_singleton.mp hq]
          exact gb
      rw [lastD_app] at w2
      omega
    have := four (f := pos g) (d := []) fb fa t2 t3
    omega
  · have hb2 : b ∈ r := by
      rcases List.mem_cons.mp hb1 with q | q
      · exact absurd q.symm ne
      · exact q
    obtain ⟨m2, m3, rfl⟩ := List.append_of_mem hb2
    have k := edges_app hE2
    have k2 := edges_app (xs := m2) k.2.2
    have hl : lastD [] (l1 ++ a :: (m2 ++ b :: m3)) = lastD b m3 := by
      rw [lastD_app2]
      show lastD a (m2 ++ b :: m3) = _
      rw [lastD_app2]
      rfl
    have t2 : true ∈ m2.map (pos g) := tr fun hx => by
      have w := walkP (p := a) (xs := m2 ++ [b]) (by
        have := edges_app (xs := m2 ++ [b]) (ys := m3) (prev := a) (h := h) (g := g) (by rw [List.append_assoc]; exact k.2.2)
        exact this.1) h1 ga (fun q hq => by
          rcases List.mem_append.mp hq with hq | hq
          · exact hx q hq
          · rw [List.mem_singleton.mp hq]
            exact gb)
      rw [lastD_app] at w
      omega
    have t3 : true ∈ (m3 ++ l1).map (pos g) := tr fun hx => by
      have w1 := walkN (p := b) (xs := m3) k2.2.2 h2 gb fun q hq => hx q (List.mem_append_left _ hq)
      have ng : ¬ 0 < dot (lastD b m3) g := by
        by_cases hr : m3 = []
        · rw [hr]
          exact gb
        · exact hx _ (List.mem_append_left _ (lastD_mem hr))
      have k0 : EdgesL h g (lastD b m3) (l1 ++ [a]) := by
        rw [hl] at hE2
        have := edges_app (xs := l1 ++ [a]) (ys := m2 ++ b :: m3) (h := h) (g := g) (prev := lastD b m3) (by rw [List.append_assoc]; exact hE2)
        exact this.1
      have w2 := walkN k0 w1 ng fun q hq => by
        rcases List.mem_append.mp hq with hq | hq
        · exact hx q (List.mem_append_right _ hq)
        · rw [List.mem_singleton.mp hq]
          exact ga
      rw [lastD_app] at w2
      omega
    have := four (f := pos g) (d := []) fa fb t2 t3
    omega
end Hs
namespace Hs
theorem ratio_trans {fa fb fc ha hb hc : Int} (p : 0 < hb) (pa : 0 < ha) (pc : 0 < hc) (h1 : fa * hb ≤ fb * ha) (h2 : fb * hc ≤ fc * hb) : fa * hc ≤ fc * ha := by
  have e1 := Int.mul_le_mul_of_nonneg_right h1 (Int.le_of_lt pc)
  have e2 := Int.mul_le_mul_of_nonneg_right h2 (Int.le_of_lt pa)
  have e3 : hb * (fa * hc) ≤ hb * (fc * ha) := by
    have q1 : hb * (fa * hc) = fa * hb * hc := by grind
    have q2 : hb * (fc * ha) = fc * hb * ha := by grind
    have q3 : fb * ha * hc = fb * hc * ha := by grind
    omega
  exact Int.le_of_mul_le_mul_left e3 p
/-- among those above the height 0 one of the least f by h -/
theorem least_ratio {f h : List Int → Int} : ∀ {pts : List (List Int)}, (∃ a ∈ pts, 0 < h a) → ∃ a ∈ pts, 0 < h a ∧ ∀ b ∈ pts, 0 < h b → f a * h b ≤ f b * h a
  | [], ⟨a, q, _⟩ => by cases q
  | x :: pts, _ => by
    by_cases hx : ∃ a ∈ pts, 0 < h a
    · obtain ⟨a, q1, q2, q3⟩ := least_ratio (f := f) hx
      by_cases hx1 : 0 < h x
      · by_cases hx2 : f x * h a ≤ f a * h x
        · refine ⟨x, List.mem_cons_self .., hx1, fun b hb hb1 => ?_⟩
          rcases List.mem_cons.mp hb with rfl | hb
          · exact Int.le_refl _
          · exact ratio_trans q2 hx1 hb1 hx2 (q3 b hb hb1)
        · refine ⟨a, List.mem_cons_of_mem _ q1, q2, fun b hb hb1 => ?_⟩
          rcases List.mem_cons.mp hb with rfl | hb
          · omega
          · exact q3 b hb hb1
      · refine ⟨a, List.mem_cons_of_mem _ q1, q2, fun b hb hb1 => ?_⟩
        rcases List.mem_cons.mp hb with rfl | hb
        · exact absurd hb1 hx1
        · exact q3 b hb hb1
    · rename_i hh
      obtain ⟨a, q1, q2⟩ := hh
      rcases List.mem_cons.mp q1 with rfl | q1
      · refine ⟨a, List.mem_cons_self .., q2, fun b hb hb1 => ?_⟩
        rcases List.mem_cons.mp hb with rfl | hb
        · exact Int.le_refl _
        · exact absurd ⟨b, hb, hb1⟩ hx
      · exact absurd ⟨a, q1, q2⟩ hx
theorem big {f : List Int → Int} : ∀ pts : List (List Int), ∃ N : Int, 0 < N ∧ ∀ p ∈ pts, -f p < N
  | [] => ⟨1, by decide, fun p hp => by cases hp⟩
  | x :: pts => by
    obtain ⟨N, n0, hN⟩ := big (f := f) pts
    refine ⟨N + (f x).natAbs + 1, by omega, fun p hp => ?_⟩
    rcases List.mem_cons.mp hp with rfl | hp
    · omega
    · have := hN p hp
      omega
theorem cutL_mem {h x : List Int} : ∀ {prev : List Int} {ps : List (List Int)}, x ∈ cutL h prev ps → (x ∈ ps ∧ 0 ≤ dot x h) ∨ ∃ q ∈ prev :: ps, ∃ p ∈ ps, dot p h * dot q h < 0 ∧ x = betw q (dot q h) p (dot p h)
  | prev, [], hx => by cases hx
  | prev, p :: ps, hx => by
    rcases List.mem_append.mp hx with hx | hx
    · rcases List.mem_append.mp hx with hx | hx
      · split at hx
        · rename_i hc
          exact .inr ⟨prev, List.mem_cons_self .., p, List.mem_cons_self .., hc, List.mem_singleton.mp hx⟩
        · cases hx
      · split at hx
        · rename_i hc
          rw [List.mem_singleton.mp hx]
          exact .inl ⟨List.mem_cons_self .., hc⟩
        · cases hx
    · rcases cutL_mem hx with ⟨q1, q2⟩ | ⟨q, q1, r, r1, q2, q3⟩
      · exact .inl ⟨List.mem_cons_of_mem _ q1, q2⟩
      · exact .inr ⟨q, List.mem_cons_of_mem _ q1, r, List.mem_cons_of_mem _ r1, q2, q3⟩
theorem cut_edges {m : Nat} {h f : List Int} : ∀ {prev : List Int} {ps : List (List Int)}, Wt m prev → (∀ p ∈ ps, Wt m p) → (∀ p ∈ cutL h prev ps, 0 < dot p f) → EdgesL h f prev ps
  | prev, [], _, _, _ => trivial
  | prev, p :: ps, h1, h2, h3 => by
    have hp := h2 p (List.mem_cons_self ..)
    refine ⟨⟨fun hc => ?_, fun hz => ?_⟩, cut_edges hp (fun q hq => h2 q (List.mem_cons_of_mem _ hq)) fun q hq => h3 q (List.mem_append_right _ hq)⟩
    · have := h3 (betw prev (dot prev h) p (dot p h)) (List.mem_append_left _ (List.mem_append_left _ (by rw [if_pos hc]; exact List.mem_cons_self ..)))
      obtain ⟨_, g, g0, _, k⟩ := betw_ok h1 hp hc
      rw [← k f]
      exact Int.mul_pos g0 this
    · exact h3 p (List.mem_append_left _ (List.mem_append_right _ (by rw [if_pos (by omega)]; exact List.mem_cons_self ..)))
/-- what holds of the points that are left -/
structure CutOk (m : Nat) (init hs pts : List (List Int)) : Prop where
  mem : ∀ p ∈ pts, InS m hs p
  dual : ∀ f : List Int, f.length = m → (∀ p ∈ pts, 0 < dot p f) → ∀ u, InS m hs u → 0 < dot u f
  ar : ∀ f : List Int, f.length = m → around f pts ≤ 2
  tight : ∀ p ∈ pts, p ∈ init ∨ ∃ h ∈ hs, dot p h = 0
theorem cut_ok {m : Nat} {init hs pts : List (List Int)} {h : List Int} (hm : h.length = m) (C : CutOk m init hs pts) : CutOk m init (hs ++ [h]) (cutA h pts) := by
  have hw : ∀ p ∈ pts, Wt m p := fun p hp => (C.mem p hp).1
  have memh : ∀ {u : List Int}, InS m (hs ++ [h]) u ↔ InS m hs u ∧ 0 ≤ dot u h := fun {u} => by
    constructor
    · intro q
      exact ⟨⟨q.1, fun k hk => q.2 k (List.mem_append_left _ hk)⟩, q.2 h (List.mem_append_right _ (List.mem_singleton.mpr rfl))⟩
    · intro q
      refine ⟨q.1.1, fun k hk => ?_⟩
      rcases List.mem_append.mp hk with hk | hk
      · exact q.1.2 k hk
      · rw [List.mem_singleton.mp hk]
        exact q.2
  by_cases hn : pts = []
  · subst hn
    refine ⟨fun p hp => (by cases hp), fun f hf _ u hu => ?_, fun f _ => Nat.zero_le _, fun p hp => (by cases hp)⟩
    exact C.dual f hf (fun p hp => by cases hp) u (memh.mp hu).1
  · have hlm := lastD_mem (d := []) hn
    have hl := hw _ hlm
    refine ⟨fun x hx => ?_, fun f hf hpos u hu => ?_, fun f hf => Nat.le_trans (cut_around hw) (C.ar f hf), fun x hx => ?_⟩
    · rcases cutL_mem hx with ⟨q1, q2⟩ | ⟨q, q1, p, p1, hc, rfl⟩
      · exact memh.mpr ⟨C.mem x q1, q2⟩
      · have qm : q ∈ pts := by
          rcases List.mem_cons.mp q1 with rfl | q1
          · exact hlm
          · exact q1
        obtain ⟨w, g, g0, _, k⟩ := betw_ok (hw q qm) (hw p p1) hc
        refine memh.mpr ⟨⟨w, fun j hj => ?_⟩, by rw [betw_h (hw q qm) (hw p p1) hc]; exact Int.le_refl 0⟩
        have e := k j
        have e1 := Int.mul_nonneg (a := ((dot p h).natAbs : Int)) (by omega) ((C.mem q qm).2 j hj)
        have e2 := Int.mul_nonneg (a := ((dot q h).natAbs : Int)) (by omega) ((C.mem p p1).2 j hj)
        apply Decidable.byContradiction
        intro hneg
        have := Int.mul_neg_of_pos_of_neg g0 (b := dot (betw q (dot q h) p (dot p h)) j) (by omega)
        omega
    · obtain ⟨hu1, hu2⟩ := memh.mp hu
      have hE := cut_edges hl hw hpos
      have pr := fun {a b : List Int} (ha : a ∈ pts) (hb : b ∈ pts) (q1 : 0 < dot a h) (q2 : dot b h < 0) => pair_ok (m := m) (hf.trans hm.symm) (fun g hg => C.ar g (hg.trans hm)) hE ha hb q1 q2
      have kept : ∀ p ∈ pts, 0 ≤ dot p h → 0 < dot p f := fun p hp q => by
        refine hpos p ?_
        have : ∀ {prev : List Int} {ps : List (List Int)}, p ∈ ps → p ∈ cutL h prev ps := by
          intro prev ps
          induction ps generalizing prev with
          | nil => exact fun z => by cases z
          | cons x xs ih =>
            intro z
            rcases List.mem_cons.mp z with rfl | z
            · exact List.mem_append_left _ (List.mem_append_right _ (by rw [if_pos q]; exact List.mem_cons_self ..))
            · exact List.mem_append_right _ (ih z)
        exact this hp
      obtain ⟨N, n0, hN⟩ := big (f := fun p => dot p f) pts
      apply Decidable.byContradiction
      intro hneg
      by_cases hx : ∃ a ∈ pts, 0 < dot a h
      · obtain ⟨a, a1, a2, a3⟩ := least_ratio (f := fun p => dot p f) (h := fun p => dot p h) hx
        have fa := kept a a1 (Int.le_of_lt a2)
        -- N * (h a * f - f a * h) + f
        have gd : ∀ w, dot w (comb f (N * dot a h + 1) h (-(N * dot a f))) = (N * dot a h + 1) * dot w f + -(N * dot a f) * dot w h := fun w => mix_dot (hf.trans hm.symm)
        have key : ∀ w, (N * dot a h + 1) * dot w f + -(N * dot a f) * dot w h = N * (dot a h * dot w f - dot a f * dot w h) + dot w f := fun w => by grind
        have q := C.dual (comb f (N * dot a h + 1) h (-(N * dot a f))) ((comb_len (hf.trans hm.symm)).trans hf) (fun p hp => ?_) u hu1
        · rw [gd, key] at q
          have e1 := Int.mul_nonneg_of_nonpos_of_nonpos (a := -dot a h) (b := dot u f) (by omega) (by omega)
          rw [Int.neg_mul] at e1
          have e2 := Int.mul_nonneg (Int.le_of_lt fa) hu2
          have e3 := Int.mul_nonneg_of_nonpos_of_nonpos (a := -N) (b := dot a h * dot u f - dot a f * dot u h) (by omega) (by omega)
          rw [Int.neg_mul] at e3
          omega
        · rw [gd, key]
          rcases Int.lt_trichotomy (dot p h) 0 with z | z | z
          · have e1 := pr a1 hp a2 z
            have e2 : dot a h * dot p f - dot a f * dot p h = dot a h * dot p f - dot p h * dot a f := by grind
            rw [e2]
            have e3 := Int.mul_le_mul_of_nonneg_left (c := N) (show (1 : Int) ≤ dot a h * dot p f - dot p h * dot a f by omega) (by omega)
            have e4 : -dot p f < N := hN p hp
            omega
          · have e1 := kept p hp (by omega)
            rw [z, Int.mul_zero, Int.sub_zero]
            have e2 := Int.mul_nonneg (a := N) (by omega) (Int.mul_nonneg (Int.le_of_lt a2) (Int.le_of_lt e1))
            omega
          · have e1 := kept p hp (by omega)
            have e2 : dot a f * dot p h ≤ dot p f * dot a h := a3 p hp z
            have e3 : dot p f * dot a h = dot a h * dot p f := Int.mul_comm ..
            have e4 := Int.mul_nonneg (a := N) (b := dot a h * dot p f - dot a f * dot p h) (by omega) (by omega)
            omega
      · -- none above: N * (-h) + f
        have gd : ∀ w, dot w (comb f 1 h (-N)) = 1 * dot w f + -N * dot w h := fun w => mix_dot (hf.trans hm.symm)
        have q := C.dual (comb f 1 h (-N)) ((comb_len (hf.trans hm.symm)).trans hf) (fun p hp => ?_) u hu1
        · rw [gd, Int.one_mul, Int.neg_mul] at q
          have e1 := Int.mul_nonneg (a := N) (by omega) hu2
          omega
        · rw [gd, Int.one_mul, Int.neg_mul]
          rcases Int.lt_trichotomy (dot p h) 0 with z | z | z
          · have e3 := Int.mul_le_mul_of_nonneg_left (c := N) (show (1 : Int) ≤ -dot p h by omega) (by omega)
            rw [Int.mul_neg] at e3
            have e4 : -dot p f < N := hN p hp
            omega
          · have e1 := kept p hp (by omega)
            rw [z, Int.mul_zero]
            omega
          · exact absurd ⟨p, hp, z⟩ hx
    · rcases cutL_mem hx with ⟨q1, q2⟩ | ⟨q, q1, p, p1, hc, rfl⟩
      · rcases C.tight x q1 with z | ⟨j, z1, z2⟩
        · exact .inl z
        · exact .inr ⟨j, List.mem_append_left _ z1, z2⟩
      · have qm : q ∈ pts := by
          rcases List.mem_cons.mp q1 with rfl | q1
          · exact hlm
          · exact q1
        exact .inr ⟨h, List.mem_append_right _ (List.mem_singleton.mpr rfl), betw_h (hw q qm) (hw p p1) hc⟩
/-- all cuts -/
def cutAll : List (List Int) → List (List Int) → List (List Int)
  | pts, [] => pts
  | pts, h :: hs => cutAll (cutA h pts) hs
theorem cutAll_ok {m : Nat} {init : List (List Int)} : ∀ {hs hs0 pts : List (List Int)}, (∀ h ∈ hs, h.length = m) → CutOk m init hs0 pts → CutOk m init (hs0 ++ hs) (cutAll pts hs)
  | [], hs0, pts, _, C => by
    rw [List.append_nil]
    exact C
  | h :: hs, hs0, pts, hm, C => by
    have := cutAll_ok (hs := hs) (hs0 := hs0 ++ [h]) (fun k hk => hm k (List.mem_cons_of_mem _ hk)) (cut_ok (hm h (List.mem_cons_self ..)) C)
    rw [List.append_assoc] at this
    exact this
/-! ### the corners of a piece -/
def unit2 : List (List Int) := [[1, 0], [0, 1]]
theorem start2 : CutOk 2 unit2 [] unit2 := by
  refine ⟨fun p hp => ?_, fun f hf hp u hu => ?_, fun f hf => ?_, fun p hp => .inl hp⟩
  · have e : p = [1, 0] ∨ p = [0, 1] := by simpa [unit2] using hp
    rcases e with rfl | rfl
    · exact ⟨⟨rfl, by decide, by decide⟩, fun h hh => by cases hh⟩
    · exact ⟨⟨rfl, by decide, by decide⟩, fun h hh => by cases hh⟩
  · obtain ⟨x, y, rfl⟩ : ∃ x y, f = [x, y] := match f, hf with | [x, y], _ => ⟨x, y, rfl⟩
    obtain ⟨⟨l, nn, ps⟩, _⟩ := hu
    obtain ⟨a, b, rfl⟩ : ∃ a b, u = [a, b] := match u, l with | [a, b], _ => ⟨a, b, rfl⟩
    have h1 := hp [1, 0] (by simp [unit2])
    have h2 := hp [0, 1] (by simp [unit2])
    simp [dot, ones] at h1 h2 ps ⊢
    have a0 := nn a (by simp)
    have b0 := nn b (by simp)
    have e1 := Int.mul_nonneg a0 (Int.le_of_lt h1)
    have e2 := Int.mul_nonneg b0 (Int.le_of_lt h2)
    rcases (show 0 < a ∨ 0 < b by omega) with q | q
    · have := Int.mul_pos q h1
      omega
    · have := Int.mul_pos q h2
      omega
  · have : ∀ a b : Bool, chg b [a, b] ≤ 2 := by decide
    exact this _ _
theorem cut2_ok {hs : List (List Int)} (hm : ∀ h ∈ hs, h.length = 2) : CutOk 2 unit2 hs (cutAll unit2 hs) := by
  have := cutAll_ok (hs0 := []) hm start2
  rw [List.nil_append] at this
  exact this
theorem CutOk.none_iff {m : Nat} {init hs pts : List (List Int)} (C : CutOk m init hs pts) : pts = [] ↔ ¬ ∃ u, InS m hs u := by
  constructor
  · rintro rfl ⟨u, hu⟩
    have h1 := C.dual (ones m) (by simp [ones]) (fun p hp => by cases hp) u hu
    have h2 := C.dual (comb (ones m) (-1) (ones m) 0) (by rw [comb_len rfl]; simp [ones]) (fun p hp => by cases hp) u hu
    rw [mix_dot rfl] at h2
    omega
  · intro h
    cases pts with
    | nil => rfl
    | cons p ps => exact absurd ⟨p, C.mem p (List.mem_cons_self ..)⟩ h
end Hs
namespace Hs
/-! ### pieces that meet -/
def CutP (a b c d : Pt) : Prop := (cross a b c * cross a b d < 0 ∧ cross c d a * cross c d b < 0) ∨ OnP a b c ∨ OnP a b d ∨ OnP c d a ∨ OnP c d b
instance (a b c d : Pt) : Decidable (CutP a b c d) := by
  unfold CutP
  infer_instance
def Meet (a b c d : Pt) : Prop := ∃ w0 w1 v0 v1 : Int, 0 ≤ w0 ∧ 0 ≤ w1 ∧ 0 ≤ v0 ∧ 0 ≤ v1 ∧ 0 < w0 + w1 ∧ w0 + w1 = v0 + v1 ∧ w0 * a.1 + w1 * b.1 = v0 * c.1 + v1 * d.1 ∧ w0 * a.2 + w1 * b.2 = v0 * c.2 + v1 * d.2
def BoxM (p q : Blk) : Prop := p.left ≤ q.right ∧ q.left ≤ p.right ∧ p.low ≤ q.high ∧ q.low ≤ p.high
instance (p q : Blk) : Decidable (BoxM p q) := by
  unfold BoxM
  infer_instance
def Bes (a b : Pt) (xs : List Pt) : Prop := (∀ x ∈ xs, 0 < cross a b x) ∨ (∀ x ∈ xs, cross a b x < 0)
instance (a b : Pt) (xs : List Pt) : Decidable (Bes a b xs) := by
  unfold Bes
  infer_instance
def Sat (a b c d : Pt) : Prop := BoxM (boxOf a b) (boxOf c d) ∧ ¬ Bes a b [c, d] ∧ ¬ Bes c d [a, b]
instance (a b c d : Pt) : Decidable (Sat a b c d) := by
  unfold Sat
  infer_instance
theorem mn_le (i j : Int) : mn i j ≤ i ∧ mn i j ≤ j := by
  unfold mn
  split <;> omega
theorem le_mx (i j : Int) : i ≤ mx i j ∧ j ≤ mx i j := by
  unfold mx
  split <;> omega
theorem mn_or (i j : Int) : mn i j = i ∨ mn i j = j := by
  unfold mn
  split <;> omega
theorem mx_or (i j : Int) : mx i j = i ∨ mx i j = j := by
  unfold mx
  split <;> omega
theorem Meet.symm {a b c d : Pt} (h : Meet a b c d) : Meet c d a b := by
  obtain ⟨w0, w1, v0, v1, h1, h2, h3, h4, h5, h6, h7, h8⟩ := h
  exact ⟨v0, v1, w0, w1, h3, h4, h1, h2, by omega, h6.symm, h7.symm, h8.symm⟩
/-- a point of a piece as a combination of its ends -/
theorem onp_comb {a b c : Pt} (h : OnP a b c) : ∃ w0 w1 : Int, 0 ≤ w0 ∧ 0 ≤ w1 ∧ 0 < w0 + w1 ∧ w0 * a.1 + w1 * b.1 = (w0 + w1) * c.1 ∧ w0 * a.2 + w1 * b.2 = (w0 + w1) * c.2 := by
  obtain ⟨h0, h1, h2, h3, h4⟩ := h
  obtain ⟨a1, a2⟩ := a
  obtain ⟨b1, b2⟩ := b
  obtain ⟨c1, c2⟩ := c
  unfold cross at h0
  unfold mn at h1 h3
  unfold mx at h2 h4
  simp only at h0 h1 h2 h3 h4 ⊢
  rcases Int.lt_trichotomy a1 b1 with q | q | q
  · refine ⟨b1 - c1, c1 - a1, by split at h2 <;> omega, by split at h1 <;> omega, by omega, by grind, by grind⟩
  · subst q
    have e : c1 = a1 := by split at h1 <;> split at h2 <;> omega
    subst e
    rcases Int.lt_trichotomy a2 b2 with q | q | q
    · refine ⟨b2 - c2, c2 - a2, by split at h4 <;> omega, by split at h3 <;> omega, by omega, by grind, by grind⟩
    · subst q
      have e : c2 = a2 := by split at h3 <;> split at h4 <;> omega
      subst e
      exact ⟨1, 0, by decide, by decide, by decide, by omega, by omega⟩
    · refine ⟨c2 - b2, a2 - c2, by split at h3 <;> omega, by split at h4 <;> omega, by omega, by grind, by grind⟩
  · refine ⟨c1 - b1, a1 - c1, by split at h1 <;> omega, by split at h2 <;> omega, by omega, by grind, by grind⟩
theorem onp_meet {a b c d : Pt} (h : OnP a b c) : Meet a b c d := by
  obtain ⟨w0, w1, h1, h2, h3, h4, h5⟩ := onp_comb h
  exact ⟨w0, w1, w0 + w1, 0, h1, h2, by omega, by omega, h3, by omega, by omega, by omega⟩
theorem onp_meet2 {a b c d : Pt} (h : OnP a b d) : Meet a b c d := by
  obtain ⟨w0, w1, h1, h2, h3, h4, h5⟩ := onp_comb h
  exact ⟨w0, w1, 0, w0 + w1, h1, h2, by omega, by omega, h3, by omega, by omega, by omega⟩
/-- the two ways to tell how far they turn -/
theorem turn_id (a b c d : Pt) : cross c d a - cross c d b = cross a b d - cross a b c := by
  unfold cross
  grind
theorem point_id1 (a b c d : Pt) : -cross c d b * a.1 + cross c d a * b.1 = cross a b d * c.1 - cross a b c * d.1 := by
  unfold cross
  grind
theorem point_id2 (a b c d : Pt) : -cross c d b * a.2 + cross c d a * b.2 = cross a b d * c.2 - cross a b c * d.2 := by
  unfold cross
  grind
theorem cut_meet {a b c d : Pt} (h : CutP a b c d) : Meet a b c d := by
  rcases h with ⟨h1, h2⟩ | h | h | h | h
  · have t := turn_id a b c d
    have p1 := point_id1 a b c d
    have p2 := point_id2 a b c d
    generalize cross a b c = s1 at *
    generalize cross a b d = s2 at *
    generalize cross c d a = t1 at *
    generalize cross c d b = t2 at *
    rcases opp h1 with ⟨q1, q2⟩ | ⟨q1, q2⟩
    · have r : 0 < t2 ∧ t1 < 0 := by rcases opp h2 with q | q <;> omega
      refine ⟨t2, -t1, -s2, s1, by omega, by omega, by omega, by omega, by omega, by omega, by grind, by grind⟩
    · have r : t2 < 0 ∧ 0 < t1 := by rcases opp h2 with q | q <;> omega
      refine ⟨-t2, t1, s2, -s1, by omega, by omega, by omega, by omega, by omega, by omega, by grind, by grind⟩
  · exact onp_meet h
  · exact onp_meet2 h
  · exact (onp_meet h).symm
  · exact (onp_meet2 h).symm
theorem cross_comb {a b c d : Pt} {w0 w1 v0 v1 : Int} (hk : w0 + w1 = v0 + v1) (h1 : w0 * a.1 + w1 * b.1 = v0 * c.1 + v1 * d.1) (h2 : w0 * a.2 + w1 * b.2 = v0 * c.2 + v1 * d.2) : w0 * cross c d a + w1 * cross c d b = 0 := by
  have e : w0 * cross c d a + w1 * cross c d b = (d.1 - c.1) * (w0 * a.2 + w1 * b.2 - (w0 + w1) * c.2) - (d.2 - c.2) * (w0 * a.1 + w1 * b.1 - (w0 + w1) * c.1) := by
    unfold cross
    grind
  rw [e, h1, h2, hk]
  grind
theorem nobes {x y w0 w1 : Int} (h0 : 0 ≤ w0) (h1 : 0 ≤ w1) (hk : 0 < w0 + w1) (h : w0 * x + w1 * y = 0) : ¬ (0 < x ∧ 0 < y) ∧ ¬ (x < 0 ∧ y < 0) := by
  constructor
  · rintro ⟨hx, hy⟩
    have e1 := Int.mul_nonneg h0 (Int.le_of_lt hx)
    have e2 := Int.mul_nonneg h1 (Int.le_of_lt hy)
    rcases (show 0 < w0 ∨ 0 < w1 by omega) with q | q
    · have := Int.mul_pos q hx
      omega
    · have := Int.mul_pos q hy
      omega
  · rintro ⟨hx, hy⟩
    have e1 := Int.mul_nonneg_of_nonpos_of_nonpos (a := -w0) (b := x) (by omega) (by omega)
    have e2 := Int.mul_nonneg_of_nonpos_of_nonpos (a := -w1) (b := y) (by omega) (by omega)
    rw [Int.neg_mul] at e1 e2
    rcases (show 0 < w0 ∨ 0 < w1 by omega) with q | q
    · have := Int.mul_neg_of_pos_of_neg q hx
      omega
    · have := Int.mul_neg_of_pos_of_neg q hy
      omega
theorem bes2 {a b c d : Pt} : Bes a b [c, d] ↔ (0 < cross a b c ∧ 0 < cross a b d) ∨ (cross a b c < 0 ∧ cross a b d < 0) := by
  unfold Bes
  simp
/-- a combination lies between -/
theorem comb_ge {x y m w0 w1 : Int} (h0 : 0 ≤ w0) (h1 : 0 ≤ w1) (hx : m ≤ x) (hy : m ≤ y) : (w0 + w1) * m ≤ w0 * x + w1 * y := by
  have e1 := Int.mul_le_mul_of_nonneg_left hx h0
  have e2 := Int.mul_le_mul_of_nonneg_left hy h1
  rw [Int.add_mul]
  omega
theorem comb_le {x y m w0 w1 : Int} (h0 : 0 ≤ w0) (h1 : 0 ≤ w1) (hx : x ≤ m) (hy : y ≤ m) : w0 * x + w1 * y ≤ (w0 + w1) * m := by
  have e1 := Int.mul_le_mul_of_nonneg_left hx h0
  have e2 := Int.mul_le_mul_of_nonneg_left hy h1
  rw [Int.add_mul]
  omega
theorem meet_sat {a b c d : Pt} (h : Meet a b c d) : Sat a b c d := by
  obtain ⟨w0, w1, v0, v1, h1, h2, h3, h4, h5, h6, h7, h8⟩ := h
  have n1 := nobes h1 h2 h5 (cross_comb h6 h7 h8)
  have n2 := nobes h3 h4 (by omega) (cross_comb h6.symm h7.symm h8.symm)
  refine ⟨?_, fun z => ?_, fun z => ?_⟩
  · have a1 := comb_ge h1 h2 (mn_le a.1 b.1).1 (mn_le a.1 b.1).2
    have a2 := comb_le h1 h2 (le_mx a.1 b.1).1 (le_mx a.1 b.1).2
    have a3 := comb_ge h1 h2 (mn_le a.2 b.2).1 (mn_le a.2 b.2).2
    have a4 := comb_le h1 h2 (le_mx a.2 b.2).1 (le_mx a.2 b.2).2
    have b1 := comb_ge h3 h4 (mn_le c.1 d.1).1 (mn_le c.1 d.1).2
    have b2 := comb_le h3 h4 (le_mx c.1 d.1).1 (le_mx c.1 d.1).2
    have b3 := comb_ge h3 h4 (mn_le c.2 d.2).1 (mn_le c.2 d.2).2
    have b4 := comb_le h3 h4 (le_mx c.2 d.2).1 (le_mx c.2 d.2).2
    rw [← h6] at b1 b2 b3 b4
    generalize w0 + w1 = k at *
    refine ⟨?_, ?_, ?_, ?_⟩
    · exact Int.le_of_mul_le_mul_left (show k * mn a.1 b.1 ≤ k * mx c.1 d.1 by omega) h5
    · exact Int.le_of_mul_le_mul_left (show k * mn c.1 d.1 ≤ k * mx a.1 b.1 by omega) h5
    · exact Int.le_of_mul_le_mul_left (show k * mn a.2 b.2 ≤ k * mx c.2 d.2 by omega) h5
    · exact Int.le_of_mul_le_mul_left (show k * mn c.2 d.2 ≤ k * mx a.2 b.2 by omega) h5
  · rcases bes2.mp z with q | q
    · exact n2.1 q
    · exact n2.2 q
  · rcases bes2.mp z with q | q
    · exact n1.1 q
    · exact n1.2 q
/-- on the straight line, between in one direction, where that has some length: between in the other -/
theorem betw_axis {p q P Q : Int} (hp : p ≠ 0) (h : p * Q = P * q) (h1 : (0 ≤ q ∧ q ≤ p) ∨ (p ≤ q ∧ q ≤ 0)) : (0 ≤ Q ∧ Q ≤ P) ∨ (P ≤ Q ∧ Q ≤ 0) := by
  rcases h1 with ⟨h1, h2⟩ | ⟨h1, h2⟩
  · have pp : 0 < p := by omega
    rcases Int.le_total 0 P with hP | hP
    · refine .inl ⟨?_, ?_⟩
      · have := Int.mul_nonneg hP h1
        exact Int.nonneg_of_mul_nonneg_right (by rw [h]; exact this) pp
      · have := Int.mul_le_mul_of_nonneg_left h2 hP
        exact Int.le_of_mul_le_mul_left (by rw [h, Int.mul_comm p P]; exact this) pp
    · refine .inr ⟨?_, ?_⟩
      · have := Int.mul_le_mul_of_nonneg_left h2 (show 0 ≤ -P by omega)
        rw [Int.neg_mul, Int.neg_mul] at this
        exact Int.le_of_mul_le_mul_left (show p * P ≤ p * Q by rw [h, Int.mul_comm p P]; omega) pp
      · have := Int.mul_nonneg (show 0 ≤ -P by omega) h1
        rw [Int.neg_mul] at this
        exact Int.le_of_mul_le_mul_left (show p * Q ≤ p * 0 by rw [h, Int.mul_zero]; omega) pp
  · have pp : 0 < -p := by omega
    rcases Int.le_total 0 P with hP | hP
    · refine .inl ⟨?_, ?_⟩
      · have := Int.mul_nonneg hP (show 0 ≤ -q by omega)
        rw [Int.mul_neg] at this
        exact Int.nonneg_of_mul_nonneg_right (a := -p) (by rw [Int.neg_mul, h]; exact this) pp
      · have := Int.mul_le_mul_of_nonneg_left (show -q ≤ -p by omega) hP
        rw [Int.mul_neg, Int.mul_neg] at this
        exact Int.le_of_mul_le_mul_left (show -p * Q ≤ -p * P by rw [Int.neg_mul, Int.neg_mul, h, Int.mul_comm p P]; omega) pp
    · refine .inr ⟨?_, ?_⟩
      · have := Int.mul_le_mul_of_nonneg_left (show -q ≤ -p by omega) (show 0 ≤ -P by omega)
        have e1 : -P * -q = P * q := by grind
        have e2 : -P * -p = P * p := by grind
        rw [e1, e2] at this
        exact Int.le_of_mul_le_mul_left (show -p * P ≤ -p * Q by rw [Int.neg_mul, Int.neg_mul, h, Int.mul_comm p P]; omega) pp
      · have := Int.mul_nonneg (show 0 ≤ -P by omega) (show 0 ≤ -q by omega)
        have e1 : -P * -q = P * q := by grind
        rw [e1] at this
        exact Int.le_of_mul_le_mul_left (show -p * Q ≤ -p * 0 by rw [Int.neg_mul, h, Int.mul_zero]; omega) pp
theorem mnmx {a b c : Int} : (mn a b ≤ c ∧ c ≤ mx a b) ↔ (0 ≤ c - a ∧ c - a ≤ b - a) ∨ (b - a ≤ c - a ∧ c - a ≤ 0) := by
  unfold mn mx
  split <;> split <;> omega
theorem onp_axis {a b c : Pt} (h0 : cross a b c = 0) (hn : a.1 ≠ b.1) (h : mn a.1 b.1 ≤ c.1 ∧ c.1 ≤ mx a.1 b.1) : OnP a b c := by
  have e : (b.1 - a.1) * (c.2 - a.2) = (b.2 - a.2) * (c.1 - a.1) := by
    unfold cross at h0
    omega
  have := mnmx.mpr (betw_axis (by omega) e (mnmx.mp h))
  exact ⟨h0, h.1, h.2, this.1, this.2⟩
theorem onp_axis2 {a b c : Pt} (h0 : cross a b c = 0) (hn : a.2 ≠ b.2) (h : mn a.2 b.2 ≤ c.2 ∧ c.2 ≤ mx a.2 b.2) : OnP a b c := by
  have e : (b.2 - a.2) * (c.1 - a.1) = (b.1 - a.1) * (c.2 - a.2) := by
    unfold cross at h0
    omega
  have := mnmx.mpr (betw_axis (by omega) e (mnmx.mp h))
  exact ⟨h0, this.1, this.2, h.1, h.2⟩
theorem over {p q r s : Int} (h1 : mn p q ≤ mx r s) (h2 : mn r s ≤ mx p q) : (mn p q ≤ r ∧ r ≤ mx p q) ∨ (mn p q ≤ s ∧ s ≤ mx p q) ∨ (r ≠ s ∧ ((mn r s ≤ p ∧ p ≤ mx r s) ∨ (mn r s ≤ q ∧ q ≤ mx r s))) := by
  unfold mn mx at *
  split at h1 <;> split at h1 <;> split at h2 <;> split at h2 <;> (try split) <;> (try split) <;> omega
/-- where a convex combination of a, b is d times c: c is on the piece -/
theorem comb_onp {a b c : Pt} {w0 w1 : Int} (h0 : 0 ≤ w0) (h1 : 0 ≤ w1) (hk : 0 < w0 + w1) (e1 : w0 * a.1 + w1 * b.1 = (w0 + w1) * c.1) (e2 : w0 * a.2 + w1 * b.2 = (w0 + w1) * c.2) : OnP a b c := by
  have a1 := comb_ge h0 h1 (mn_le a.1 b.1).1 (mn_le a.1 b.1).2
  have a2 := comb_le h0 h1 (le_mx a.1 b.1).1 (le_mx a.1 b.1).2
  have a3 := comb_ge h0 h1 (mn_le a.2 b.2).1 (mn_le a.2 b.2).2
  have a4 := comb_le h0 h1 (le_mx a.2 b.2).1 (le_mx a.2 b.2).2
  rw [e1] at a1 a2
  rw [e2] at a3 a4
  refine ⟨?_, Int.le_of_mul_le_mul_left a1 hk, Int.le_of_mul_le_mul_left a2 hk, Int.le_of_mul_le_mul_left a3 hk, Int.le_of_mul_le_mul_left a4 hk⟩
  have z : (w0 + w1) * cross a b c = 0 := by
    have : (w0 + w1) * cross a b c = (b.1 - a.1) * ((w0 + w1) * c.2 - (w0 + w1) * a.2) - (b.2 - a.2) * ((w0 + w1) * c.1 - (w0 + w1) * a.1) := by
      unfold cross
      grind
    rw [this, ← e1, ← e2]
    grind
  rcases Int.mul_eq_zero.mp z with q | q
  · omega
  · exact q
theorem sat_cut {a b c d : Pt} (h : Sat a b c d) : CutP a b c d := by
  obtain ⟨⟨x1, x2, y1, y2⟩, n1, n2⟩ := h
  rw [bes2] at n1 n2
  have t := turn_id a b c d
  have p1 := point_id1 a b c d
  have p2 := point_id2 a b c d
  by_cases hD : cross c d a - cross c d b = 0
  · -- all on one straight line
    have s1 : cross a b c = 0 := by omega
    have s2 : cross a b d = 0 := by omega
    have t1 : cross c d a = 0 := by omega
    have t2 : cross c d b = 0 := by omega
    have ox := over x1 x2
    have oy := over y1 y2
    by_cases ha : a.1 = b.1
    · by_cases hb : a.2 = b.2
      · -- a is b
        by_cases hc : c.1 = d.1
        · by_cases hd : c.2 = d.2
          · refine .inr (.inl ⟨s1, ?_⟩)
            show mn a.1 b.1 ≤ c.1 ∧ c.1 ≤ mx a.1 b.1 ∧ mn a.2 b.2 ≤ c.2 ∧ c.2 ≤ mx a.2 b.2
            rw [← hc] at ox
            rw [← hd] at oy
            have : (boxOf a b).left = mn a.1 b.1 := rfl
            simp only [ne_eq, not_true_eq_false, false_and, or_false, or_self] at ox oy
            exact ⟨ox.1, ox.2, oy.1, oy.2⟩
          · refine .inr (.inr (.inr (.inl (onp_axis2 t1 hd ?_))))
            rw [← hb] at oy
            unfold mn mx at oy ⊢
            simp at oy ⊢
            split <;> split <;> simp_all <;> omega
        · refine .inr (.inr (.inr (.inl (onp_axis t1 hc ?_))))
          rw [← ha] at ox
          unfold mn mx at ox ⊢
          simp at ox ⊢
          split <;> split <;> simp_all <;> omega
      · rcases oy with q | q | ⟨q1, q | q⟩
        · exact .inr (.inl (onp_axis2 s1 hb q))
        · exact .inr (.inr (.inl (onp_axis2 s2 hb q)))
        · exact .inr (.inr (.inr (.inl (onp_axis2 t1 q1 q))))
        · exact .inr (.inr (.inr (.inr (onp_axis2 t2 q1 q))))
    · rcases ox with q | q | ⟨q1, q | q⟩
      · exact .inr (.inl (onp_axis s1 ha q))
      · exact .inr (.inr (.inl (onp_axis s2 ha q)))
      · exact .inr (.inr (.inr (.inl (onp_axis t1 q1 q))))
      · exact .inr (.inr (.inr (.inr (onp_axis t2 q1 q))))
  · by_cases z : cross a b c * cross a b d < 0 ∧ cross c d a * cross c d b < 0
    · exact .inl z
    · refine .inr ?_
      have key : cross a b c = 0 ∨ cross a b d = 0 ∨ cross c d a = 0 ∨ cross c d b = 0 := by
        apply Decidable.byContradiction
        intro hn
        refine z ⟨?_, ?_⟩
        · rcases (show (0 < cross a b c ∧ cross a b d < 0) ∨ (cross a b c < 0 ∧ 0 < cross a b d) by omega) with ⟨q1, q2⟩ | ⟨q1, q2⟩
          · exact Int.mul_neg_of_pos_of_neg q1 q2
          · exact Int.mul_neg_of_neg_of_pos q1 q2
        · rcases (show (0 < cross c d a ∧ cross c d b < 0) ∨ (cross c d a < 0 ∧ 0 < cross c d b) by omega) with ⟨q1, q2⟩ | ⟨q1, q2⟩
          · exact Int.mul_neg_of_pos_of_neg q1 q2
          · exact Int.mul_neg_of_neg_of_pos q1 q2
      generalize cross a b c = s1 at *
      generalize cross a b d = s2 at *
      generalize cross c d a = t1 at *
      generalize cross c d b = t2 at *
      rcases key with k | k | k | k
      · subst k
        refine .inl ?_
        rcases (show 0 < s2 ∨ s2 < 0 by omega) with q | q
        · exact comb_onp (w0 := -t2) (w1 := t1) (by omega) (by omega) (by omega) (by grind) (by grind)
        · exact comb_onp (w0 := t2) (w1 := -t1) (by omega) (by omega) (by omega) (by grind) (by grind)
      · subst k
        refine .inr (.inl ?_)
        rcases (show 0 < s1 ∨ s1 < 0 by omega) with q | q
        · exact comb_onp (w0 := t2) (w1 := -t1) (by omega) (by omega) (by omega) (by grind) (by grind)
        · exact comb_onp (w0 := -t2) (w1 := t1) (by omega) (by omega) (by omega) (by grind) (by grind)
      · subst k
        refine .inr (.inr (.inl ?_))
        rcases (show 0 < t2 ∨ t2 < 0 by omega) with q | q
        · exact comb_onp (w0 := -s2) (w1 := s1) (by omega) (by omega) (by omega) (by grind) (by grind)
        · exact comb_onp (w0 := s2) (w1 := -s1) (by omega) (by omega) (by omega) (by grind) (by grind)
      · subst k
        refine .inr (.inr (.inr ?_))
        rcases (show 0 < t1 ∨ t1 < 0 by omega) with q | q
        · exact comb_onp (w0 := s2) (w1 := -s1) (by omega) (by omega) (by omega) (by grind) (by grind)
        · exact comb_onp (w0 := -s2) (w1 := s1) (by omega) (by omega) (by omega) (by grind) (by grind)
theorem meet_iff {a b c d : Pt} : Meet a b c d ↔ CutP a b c d := ⟨fun h => sat_cut (meet_sat h), cut_meet⟩
theorem sat_iff {a b c d : Pt} : Sat a b c d ↔ CutP a b c d := ⟨sat_cut, fun h => meet_sat (cut_meet h)⟩
end Hs
namespace Hs
def rows2 (x y : List Int) : List (List Int) := List.zipWith (fun a b => [a, b]) x y
theorem rows2_len {x y : List Int} : ∀ h ∈ rows2 x y, h.length = 2 := by
  unfold rows2
  induction x generalizing y with
  | nil => intro h hh; simp at hh
  | cons a x ih =>
    cases y with
    | nil => intro h hh; simp at hh
    | cons b y =>
      intro h hh
      rw [List.zipWith_cons_cons] at hh
      rcases List.mem_cons.mp hh with rfl | hh
      · rfl
      · exact ih h hh
theorem dot2 (w0 w1 x y : Int) : dot [w0, w1] [x, y] = w0 * x + w1 * y := by simp [dot]
theorem wt2 {u : List Int} (h : Wt 2 u) : ∃ w0 w1, u = [w0, w1] ∧ 0 ≤ w0 ∧ 0 ≤ w1 ∧ 0 < w0 + w1 := by
  obtain ⟨l, nn, ps⟩ := h
  obtain ⟨a, b, rfl⟩ : ∃ a b, u = [a, b] := match u, l with | [a, b], _ => ⟨a, b, rfl⟩
  simp [dot, ones] at ps
  exact ⟨a, b, rfl, nn a (by simp), nn b (by simp), ps⟩
theorem wt2_of {w0 w1 : Int} (h0 : 0 ≤ w0) (h1 : 0 ≤ w1) (h : 0 < w0 + w1) : Wt 2 [w0, w1] := by
  refine ⟨rfl, fun x hx => ?_, by simp [dot, ones]; exact h⟩
  have : x = w0 ∨ x = w1 := by simpa using hx
  rcases this with rfl | rfl <;> assumption
theorem mn_scale {k i j : Int} (hk : 0 < k) : mn (k * i) (k * j) = k * mn i j := by
  unfold mn
  by_cases h : j < i
  · rw [if_pos h, if_pos (Int.mul_lt_mul_of_pos_left h hk)]
  · rw [if_neg h, if_neg (fun q => h (Int.lt_of_mul_lt_mul_left q (Int.le_of_lt hk)))]
theorem mx_scale {k i j : Int} (hk : 0 < k) : mx (k * i) (k * j) = k * mx i j := by
  unfold mx
  by_cases h : j > i
  · rw [if_pos h, if_pos (Int.mul_lt_mul_of_pos_left h hk)]
  · rw [if_neg h, if_neg (fun q => h (Int.lt_of_mul_lt_mul_left q (Int.le_of_lt hk)))]
theorem ins_phts {a b c d : Pt} {w0 w1 : Int} : InS 2 (rows2 (phts c d a) (phts c d b)) [w0, w1] ↔ Wt 2 [w0, w1] ∧ OnP ((w0 + w1) * c.1, (w0 + w1) * c.2) ((w0 + w1) * d.1, (w0 + w1) * d.2) (w0 * a.1 + w1 * b.1, w0 * a.2 + w1 * b.2) := by
  unfold InS
  refine and_congr_right fun hw => ?_
  obtain ⟨x, y, e, h0, h1, hk⟩ := wt2 hw
  injection e with e1 e2
  injection e2 with e2 _
  subst e1 e2
  have cr : cross ((w0 + w1) * c.1, (w0 + w1) * c.2) ((w0 + w1) * d.1, (w0 + w1) * d.2) (w0 * a.1 + w1 * b.1, w0 * a.2 + w1 * b.2) = (w0 + w1) * (w0 * cross c d a + w1 * cross c d b) := by
    unfold cross
    grind
  have crz : cross ((w0 + w1) * c.1, (w0 + w1) * c.2) ((w0 + w1) * d.1, (w0 + w1) * d.2) (w0 * a.1 + w1 * b.1, w0 * a.2 + w1 * b.2) = 0 ↔ w0 * cross c d a + w1 * cross c d b = 0 := by
    rw [cr]
    constructor
    · intro q
      rcases Int.mul_eq_zero.mp q with q | q
      · omega
      · exact q
    · intro q
      rw [q, Int.mul_zero]
  unfold OnP
  rw [crz]
  simp only [mn_scale hk, mx_scale hk]
  simp only [rows2, phts, hts, boxOf, List.zipWith_cons_cons, List.zipWith_nil_left, List.mem_cons, List.not_mem_nil, or_false, forall_eq_or_imp, forall_eq, dot2]
  generalize mn c.1 d.1 = l
  generalize mx c.1 d.1 = r
  generalize mn c.2 d.2 = lo
  generalize mx c.2 d.2 = hi
  generalize cross c d a = s
  generalize cross c d b = t
  have e1 : w0 * (a.1 - l) + w1 * (b.1 - l) = (w0 * a.1 + w1 * b.1) - (w0 + w1) * l := by grind
  have e2 : w0 * (r - a.1) + w1 * (r - b.1) = (w0 + w1) * r - (w0 * a.1 + w1 * b.1) := by grind
  have e3 : w0 * (a.2 - lo) + w1 * (b.2 - lo) = (w0 * a.2 + w1 * b.2) - (w0 + w1) * lo := by grind
  have e4 : w0 * (hi - a.2) + w1 * (hi - b.2) = (w0 + w1) * hi - (w0 * a.2 + w1 * b.2) := by grind
  rw [e1, e2, e3, e4, Int.mul_neg, Int.mul_neg]
  constructor
  · rintro ⟨q1, q2, q3, q4, q5, q6⟩
    exact ⟨by omega, by omega, by omega, by omega, by omega⟩
  · rintro ⟨q1, q3, q4, q5, q6⟩
    exact ⟨by omega, by omega, by omega, by omega, by omega, by omega⟩
theorem ins_meet {a b c d : Pt} : (∃ u, InS 2 (rows2 (phts c d a) (phts c d b)) u) ↔ Meet a b c d := by
  constructor
  · rintro ⟨u, hu⟩
    obtain ⟨w0, w1, rfl, h0, h1, hk⟩ := wt2 hu.1
    obtain ⟨_, o⟩ := ins_phts.mp hu
    obtain ⟨v0, v1, g0, g1, gk, e1, e2⟩ := onp_comb o
    simp only at e1 e2
    refine ⟨w0 * (v0 + v1), w1 * (v0 + v1), v0 * (w0 + w1), v1 * (w0 + w1), Int.mul_nonneg h0 (by omega), Int.mul_nonneg h1 (by omega), Int.mul_nonneg g0 (by omega), Int.mul_nonneg g1 (by omega), ?_, by grind, by grind, by grind⟩
    have : 0 < (w0 + w1) * (v0 + v1) := Int.mul_pos hk gk
    rw [Int.add_mul] at this
    exact this
  · rintro ⟨w0, w1, v0, v1, h0, h1, g0, g1, hk, hs, e1, e2⟩
    refine ⟨[w0, w1], ins_phts.mpr ⟨wt2_of h0 h1 hk, ?_⟩⟩
    refine comb_onp (w0 := v0) (w1 := v1) g0 g1 (by omega) ?_ ?_
    · simp only
      grind
    · simp only
      grind
theorem none_cut {a b c d : Pt} : cutAll unit2 (rows2 (phts c d a) (phts c d b)) = [] ↔ ¬ CutP a b c d := by
  rw [(cut2_ok rows2_len).none_iff, ins_meet, meet_iff]
theorem cutp_symm {a b c d : Pt} : CutP c d a b ↔ CutP a b c d := by
  rw [← meet_iff, ← meet_iff]
  exact ⟨Meet.symm, Meet.symm⟩
theorem Meet.flip {a b c d : Pt} (h : Meet a b c d) : Meet b a c d := by
  obtain ⟨w0, w1, v0, v1, h1, h2, h3, h4, h5, h6, h7, h8⟩ := h
  exact ⟨w1, w0, v0, v1, h2, h1, h3, h4, by omega, by omega, by omega, by omega⟩
theorem cutp_flip {a b c d : Pt} : CutP b a c d ↔ CutP a b c d := by
  rw [← meet_iff, ← meet_iff]
  exact ⟨Meet.flip, Meet.flip⟩
end Hs
namespace Hs
open PySem PySem.Spec PyProof.Rows L2 Evl
/-! ### over zip of two tuples -/
theorem walk_zipT {K : PySem.W.Frag} {a b : Addr} {xs ys : List V} {n : Nat} (hn : n = min xs.length ys.length) : Walk (RZ.ItzT K a b) n (fun H => SqT K H a xs ∧ SqT K H b ys) (YPair (fun i => xs[i]?) (fun i => ys[i]?)) := by
  subst hn
  refine ⟨fun i _ hi q => ?_, fun _ q => ⟨xs, ys, q.1, q.2, by omega⟩, fun i H v H' _ q y => ?_⟩
  · have h1 : i < xs.length := by omega
    have h2 : i < ys.length := by omega
    exact ⟨xs, ys, xs[i], ys[i], q.1, q.2, by simp [h1], by simp [h2]⟩
  · obtain ⟨T, x, z, h1, h2, h3, h4, h5⟩ := y
    exact ⟨T, x, z, h1, h2, h3, h4 xs q.1, h5 ys q.2⟩
section
variable {K : PySem.W.Frag} {σ : L2.St} {H : Hp} {te : TE}
theorem el_zipT {a b : Addr} {xs ys : List V} {ta tb : TE} {i j : Nat} {vs : List Nat} (v : Nat → V) (ha : Ev ta σ H (.ref a)) (hb : Ev tb σ H (.ref b)) (hx : SqT K H a xs) (hy : SqT K H b ys) (hl : xs.length = ys.length) (hz : xs.length ≤ 40000) (hw : ∀ x y, wipe (((wipe σ vs).set i (some x)).set j (some y)) vs = wipe σ vs)
    (he : ∀ (k : Nat) (x y : V) H1, Ex H H1 → xs[k]? = some x → ys[k]? = some y → Ev te (((wipe σ vs).set i (some x)).set j (some y)) H1 (v k)) :
    EvL (tLc (RZ.iZipA K (tCons ta (tCons tb tNil))) (gTup K 2 (gCons (gName i) (gCons (gName j) gNil))) tYes te vs) σ H (given xs.length (fun _ => true) v) := fun H0 e Q q =>
  ha H0 e _ fun H1 e1 => hb H1 (e.trans e1) _ fun H2 e2 => by
    have e02 := (e.trans e1).trans e2
    refine ⟨a, b, xs, ys, rfl, .inr ⟨ex_t e02 hx, ex_t e02 hy, fun Dl hD => ?_⟩⟩
    refine lc_it (walk_zipT (xs := xs) (ys := ys) (n := xs.length) (by omega)) (Cw H2 (fun _ => true) v Dl) ⟨hD, Ex.new hD, upd_same⟩ (fun i H' _ p => ⟨ex_t (e02.trans p.2.1) hx, ex_t (e02.trans p.2.1) hy⟩) (fun k x H' H'' hk p y => ?_) (fun H' p => q Dl H' (fresh_back (e1.trans e2) p.1) ((e1.trans e2).trans p.2.1) p.2.2)
    obtain ⟨T, x', y', rfl, hT, rfl, f1, f2⟩ := y
    refine ⟨T, [x', y'], rfl, st_of upd_same, rfl, _, _, rfl, _, _, rfl, rfl, hw x' y', ?_⟩
    exact cw_turn ⟨p.1, p.2.1.trans (Ex.new hT), (Ex.new hT) _ _ p.2.2⟩ (by omega) (fun H1 _ Q q => q H1 (Ex.refl H1)) fun _ => he k x' y' H2 e02 f1 f2
theorem ev_sum {ns : List Int} (h : EvL te σ H (ns.map V.int)) : Ev (tCB (rSum K) (tCons te tNil)) σ H (.int ns.sum) := fun H1 e Q q =>
  h H1 e _ fun p H2 _ e2 h2 => ⟨p, ns, rfl, sq_of h2, q H2 e2⟩
end
theorem given_ints {n : Nat} {f : Nat → Int} {l : List Int} (hl : l.length = n) (h : ∀ (k : Nat) (x : Int), l[k]? = some x → x = f k) : given n (fun _ => true) (fun k => V.int (f k)) = l.map V.int := by
  subst hl
  unfold given
  rw [List.filter_eq_self.mpr (fun _ _ => rfl)]
  apply List.ext_getElem
  · simp
  · intro i h1 h2
    simp only [List.length_map, List.length_range] at h1
    simp only [List.getElem_map, List.getElem_range]
    rw [h i _ (List.getElem?_eq_getElem h1)]
theorem at_int {l : List Int} {k : Nat} {v : V} (h : (l.map V.int)[k]? = some v) : ∃ x, l[k]? = some x ∧ v = .int x := by
  rw [List.getElem?_map] at h
  obtain ⟨x, h1, h2⟩ := Option.map_eq_some_iff.mp h
  exact ⟨x, h1, h2.symm⟩
/-! ### weights, by their object -/
def BdL (n : Nat) (l : List Int) : Prop := ∀ x ∈ l, Bd n x
def Ws (K : PySem.W.Frag) (H : Hp) (p : Addr) (w : List Int) : Prop := SqT K H p (w.map V.int)
theorem Ws.ext {K : PySem.W.Frag} {H H' : Hp} {p : Addr} {w : List Int} (h : Ws K H p w) (e : Ex H H') : Ws K H' p w := ex_t e h
def spHeight (K : PySem.W.Frag) (n m : Nat) : Sp := fun vs H Q _ => ∃ p q w h, vs = [.ref p, .ref q] ∧ Ws K H p w ∧ Ws K H q h ∧ w.length = h.length ∧ w.length ≤ 3 ∧ BdL n w ∧ BdL m h ∧ RetV (.int (dot w h)) H Q
theorem getD_at {l : List Int} {k : Nat} {x : Int} (h : l[k]? = some x) : l.getD k 0 = x := by
  rw [List.getD_eq_getElem?_getD, h]
  rfl
theorem zip_at {f : Int → Int → Int} {p q : List Int} {k : Nat} {x : Int} (h : (List.zipWith f p q)[k]? = some x) : x = f (p.getD k 0) (q.getD k 0) := by
  rw [List.getElem?_zipWith] at h
  cases h1 : p[k]? with
  | none => rw [h1] at h; cases h
  | some a =>
    cases h2 : q[k]? with
    | none => rw [h1, h2] at h; cases h
    | some b =>
      rw [h1, h2] at h
      rw [getD_at h1, getD_at h2]
      exact (Option.some.inj h).symm
section
variable {P : Program} {w : World} {K : PySem.W.Frag} {mg : Str → Option Value} {base : Heap} {f : Addr} {fd : FuncData} {n m : Nat}
abbrev sHeight : Stmt := top 8
theorem scHeight : FnScope ["weights", "heights", "weight", "high"] ["weights", "heights"] (defScope sHeight) := ⟨rfl, rfl, rfl, by decide +kernel, rfl, by decide +kernel, by decide +kernel⟩
theorem ok_height (F : FnP K "height" sHeight f fd) (g_sum : mg "sum" = none) (g_zip : mg "zip" = none) (hn : n + m ≤ 90000) : FnOk P w K mg base CX0 1 f fd ["weights", "heights"] (spHeight K n m) := by
  have nd := scHeight.nd
  refine F.ok scHeight (fun vs H Q E h => ?_) (fun cdv A outer s H vs Q E hr h => ⟨_, PSs.nox (pss_one (ps_ret (pe_callB (r := rSum K) (cr_sum rfl) (by rfl) g_sum (by decide +kernel) (pa_cons (pe_lc (own := [("weight", 2), ("high", 3)]) (g := gTup K 2 (gCons (gName 2) (gCons (gName 3) gNil))) rfl nd (RZ.pi_zipA (by rfl) g_zip (pa_cons (pv 0) (pa_cons (pv 1) pa_nil))) (blkOk_by (N := ["weights", "heights", "weight", "high"]) (sc := defScope (Hs.top 8)) (by decide +kernel)) (fun _ _ _ _ _ => (pg_tup rfl (pgs_cons (pg_name (i := 2) nd rfl (Or.inl rfl)) (pgs_cons (pg_name (i := 3) nd rfl (Or.inl rfl)) pgs_nil)))) (fun _ _ _ _ _ => pts_nil) (fun _ _ _ _ _ => (pe_op op_mulW (pv 2) (pv 3)))) pa_nil)))), ?_⟩)
  · obtain ⟨p, q, w, h, rfl, _⟩ := h
    rfl
  · obtain ⟨p, q, w, h, rfl, hw, hh, hl, hz, bw, bh, k⟩ := h
    refine s_ret (ev_sum ?_) fun H1 e1 => k H1 e1
    rw [← given_ints (n := w.length) (f := fun k => w.getD k 0 * h.getD k 0) (by rw [List.length_zipWith]; omega) (fun k x hx => zip_at hx)]
    have e0 : w.length = (w.map V.int).length := (List.length_map ..).symm
    rw [e0]
    refine el_zipT _ (ev_var rfl) (ev_var rfl) hw hh (by simp [hl]) (by simp; omega) (fun _ _ => rfl) (fun k x y H1 e1 hx hy => ?_)
    obtain ⟨i, hi, rfl⟩ := at_int hx
    obtain ⟨j, hj, rfl⟩ := at_int hy
    rw [getD_at hi, getD_at hj]
    exact ev_op (ev_var rfl) (ev_var rfl) (rv_I ((bw i (List.mem_of_getElem? hi)).cmul (bh j (List.mem_of_getElem? hj)) hn))
end
end Hs
namespace Hs
open PySem PySem.Spec PyProof.Rows L2 Evl
theorem rc_abs {H : Hp} {i : Int} : RC (fun xs H Q => ∃ i : Int, xs = [.int i] ∧ Q (.int (if i < 0 then -i else i)) H) [.int i] H (.int (i.natAbs : Int)) := fun H1 _ Q q => ⟨i, rfl, by
  have e : (if i < 0 then -i else i) = (i.natAbs : Int) := by split <;> omega
  rw [e]
  exact q H1 (Ex.refl H1)⟩
theorem s_par {σ : L2.St} {H : Hp} {D : Ends} {i j : Nat} {ta : TA} {v u : V} (h : EvA ta σ H [v, u]) (k : ∀ H1, Ex H H1 → D.nx ((σ.set i (some v)).set j (some u)) H1) : tPar i j ta D σ H := h H (Ex.refl H) _ fun H1 e => ⟨v, u, rfl, k H1 e⟩
theorem q_par {σ : L2.St} {H : Hp} {D : Ends} {i j : Nat} {ta : TA} {v u : V} {tz : TS} (h : EvA ta σ H [v, u]) (k : ∀ H1, Ex H H1 → tz D ((σ.set i (some v)).set j (some u)) H1) : tSeq (tPar i j ta) tz D σ H := s_par (D := { D with nx := tz D }) h k
theorem nat_mod {p q : Nat} : (p : Int).fmod (q : Int) = ((p % q : Nat) : Int) := by
  rw [Int.fmod_eq_emod_of_nonneg _ (by omega)]
  exact (Int.natCast_emod p q).symm
def spGcd : Sp := fun vs H Q _ => ∃ a b : Int, vs = [.int a, .int b] ∧ ∀ H', Ex H H' → Q (.int (Int.gcd a b : Int)) H'
section
variable {P : Program} {w : World} {K : PySem.W.Frag} {mg : Str → Option Value} {base : Heap} {f : Addr} {fd : FuncData}
abbrev sCommon : Stmt := top 4
theorem scCommon : FnScope ["one", "other"] ["one", "other"] (defScope sCommon) := ⟨rfl, rfl, rfl, by decide +kernel, rfl, by decide +kernel, by decide +kernel⟩
theorem ok_common (F : FnP K "common_part" sCommon f fd) (g_abs : mg "abs" = none) : FnOk P w K mg base CX0 1 f fd ["one", "other"] spGcd := by
  have nd := scCommon.nd
  refine F.ok scCommon (fun vs H Q E h => ?_) (fun cdv A outer s H vs Q E hr h => ⟨_, PSs.nox (pss_cons (ps_set (i := 0) nd rfl (.inl rfl) (pe_callB call_abs (by rfl) g_abs (by decide +kernel) (pa_cons (pv 0) pa_nil)))
  (pss_cons (ps_set (i := 1) nd rfl (.inl rfl) (pe_callB call_abs (by rfl) g_abs (by decide +kernel) (pa_cons (pv 1) pa_nil)))
  (pss_cons (ps_while PassesOwn.never (pt_cmpR op_ne (pv 1) pe_int (nomark _)) (pss_one (ps_par (i := 0) (j := 1) (by rfl) nd rfl rfl (by decide) rfl rfl (pa_cons (pv 1) (pa_cons (pe_op op_modN (pv 0) (pv 1)) pa_nil)) (by rfl))))
  (pss_one (ps_ret (pv 0)))))), ?_⟩)
  · obtain ⟨a, b, rfl, _⟩ := h
    rfl
  · obtain ⟨a, b, rfl, k⟩ := h
    refine q_asg (ev_cb (ea_cons (ev_var rfl) ea_nil) rc_abs) fun H1 e1 => ?_
    refine q_asg (ev_cb (ea_cons (ev_var rfl) ea_nil) rc_abs) fun H2 e2 => ?_
    refine q_while (fun m σ' H' => Ex H H' ∧ ∃ p : Nat, σ' = [some (.int (p : Int)), some (.int (m : Int))] ∧ Nat.gcd p m = Int.gcd a b) b.natAbs ⟨e1.trans e2, a.natAbs, rfl, rfl⟩ ?_
    rintro m σ' H' ⟨e, p, rfl, hg⟩
    refine ⟨_, et_test (ev_op (ev_var rfl) ev_c (rv_ne rfl)), fun ht H3 e3 => ?_, fun ht H3 e3 => ?_⟩
    · have hm : m ≠ 0 := fun z => by
        subst z
        simp at ht
      refine ⟨fun σ2 H2 => ∃ m', m' < m ∧ Ex H H2 ∧ ∃ p : Nat, σ2 = [some (.int (p : Int)), some (.int (m' : Int))] ∧ Nat.gcd p m' = Int.gcd a b, fun σ2 H2 h => h, ?_⟩
      refine s_par (ea_cons (ev_var rfl) (ea_cons (ev_op (ev_var rfl) (ev_var rfl) (rv_I (show (m : Int) ≠ 0 by omega))) ea_nil)) fun H4 e4 => ?_
      refine ⟨p % m, Nat.mod_lt _ (by omega), (e.trans e3).trans e4, m, ?_, ?_⟩
      · rw [nat_mod]
        rfl
      · rw [← hg, Nat.gcd_comm m, ← Nat.gcd_rec, Nat.gcd_comm]
    · have hm : m = 0 := Decidable.byContradiction fun hm => by
        have : (!decide (V.int (m : Int) = V.int 0)) = true := by
          rw [decide_eq_false (fun z => by injection z with z; omega)] <;> rfl
        rw [this] at ht
        exact Bool.noConfusion ht
      subst hm
      rw [Nat.gcd_zero_right] at hg
      refine s_ret (ev_var rfl) fun H4 e4 => ?_
      rw [hg]
      exact k H4 ((e.trans e3).trans e4)
/-- the fraction, where the bottom is above 0 -/
def spFracP : Sp := fun vs H Q _ => ∃ a b : Int, vs = [.int a, .int b] ∧ 0 < b ∧ Bd 13000 a ∧ Bd 13000 b ∧ RetU (prV (low a b)) H Q
abbrev sFrac : Stmt := top 5
theorem scFrac : FnScope ["top", "bottom", "part"] ["top", "bottom"] (defScope sFrac) := ⟨rfl, rfl, rfl, by decide +kernel, rfl, by decide +kernel, by decide +kernel⟩
theorem sg_lt {a b : Int} (h : b ≠ 0) {n : Nat} (hb : b.natAbs < 2 ^ n) : (sg a b).natAbs < 2 ^ n := by
  rw [sg_abs]
  exact Nat.lt_of_le_of_lt (Nat.le_of_dvd (by omega) (Int.natCast_dvd_natCast.mp (by rw [Int.dvd_natAbs]; exact Int.gcd_dvd_right ..))) hb
theorem ok_fracP {dvs : List V} (F : FunD K "fraction" "fraction" (defArgs sFrac) (defBody sFrac) (defScope sFrac) dvs [] f fd) (O_common_part : Own P w K mg base 1 "common_part" ["one", "other"] spGcd) : FnOk P w K mg base CX0 2 f fd ["top", "bottom"] spFracP := by
  have nd := scFrac.nd
  refine F.ok scFrac (fun vs H Q E h => ?_) (fun cdv A outer s H vs Q E hr h => ⟨_, PSs.nox (pss_cons (ps_if (pt_cmpR op_eq (pv 1) pe_int (nomark _)) (pss_one ps_never) pss_nil)
  (pss_cons (ps_set (i := 2) nd rfl (.inl rfl) (Hs.pe_own O_common_part hr (by first | decide | omega) (by rfl) (pa_cons (pv 0) (pa_cons (pv 1) pa_nil))))
  (pss_cons (ps_if (pt_cmpR op_lt (pv 1) pe_int (nomark _)) (pss_one (ps_set (i := 2) nd rfl (.inl rfl) (pe_un un_neg (pv 2)))) pss_nil)
  (pss_one (ps_ret (pe_tup (pa_cons (pe_op Hs.op_fdivG (pv 0) (pv 2)) (pa_cons (pe_op Hs.op_fdivG (pv 1) (pv 2)) pa_nil)))))))), ?_⟩)
  · obtain ⟨a, b, rfl, _⟩ := h
    rfl
  · obtain ⟨a, b, rfl, hb, ha9, hb9, k⟩ := h
    refine q_when (b := false) (et_is (et_test (ev_op (ev_var rfl) ev_c (rv_eq rfl))) (decide_eq_false (fun z => by injection z with z; omega))) (fun ht => Bool.noConfusion ht) (fun _ H0 e0 => ?_)
    refine q_asg (ev_call (ea_cons (ev_var rfl) (ea_cons (ev_var rfl) ea_nil)) fun H1 e1 Q' q E' => ⟨a, b, rfl, q⟩) fun H1 e1 => ?_
    refine q_when (b := false) (et_is (et_test (ev_op (ev_var rfl) ev_c rv_I0)) (decide_eq_false (by omega))) (fun ht => Bool.noConfusion ht) (fun _ H2 e2 => ?_)
    have e : (Int.gcd a b : Int) = sg a b := (if_neg (by omega)).symm
    rw [e]
    have hs := sg_ne (a := a) (b := b) (by omega)
    have e02 := (e0.trans e1).trans e2
    exact s_retU (eu_tup (ea_cons (ev_op (ev_var rfl) (ev_var rfl) (rv_I (divX hs ha9 (by decide) (by decide)))) (ea_cons (ev_op (ev_var rfl) (ev_var rfl) (rv_I (divX hs hb9 (by decide) (by decide)))) ea_nil)) (by simp)) fun p H3 hp e3 h3 => k p H3 (fresh_back e02 hp) (e02.trans e3) h3
def cmp3 (a b : Int) : Int := if a < b then -1 else if b < a then 1 else 0
def spOrd (K : PySem.W.Frag) (n : Nat) : Sp := fun vs H Q _ => ∃ (p q : Addr) (x y : Pt), vs = [.ref p, .ref q] ∧ Pl K n H p x ∧ Pl K n H q y ∧ RetV (.int (cmp3 (x.1 * y.2) (y.1 * x.2))) H Q
abbrev sOrder : Stmt := top 6
theorem scOrder : FnScope ["one", "other", "left", "right"] ["one", "other"] (defScope sOrder) := ⟨rfl, rfl, rfl, by decide +kernel, rfl, by decide +kernel, by decide +kernel⟩
theorem ok_order {n : Nat} (F : FnP K "order" sOrder f fd) (hn : n ≤ 40000) : FnOk P w K mg base CX0 1 f fd ["one", "other"] (spOrd K n) := by
  have nd := scOrder.nd
  refine F.ok scOrder (fun vs H Q E h => ?_) (fun cdv A outer s H vs Q E hr h => ⟨_, PSs.nox (pss_cons (ps_set (i := 2) nd rfl (.inl rfl) (pe_op op_mulW (pe_ix (r := rIxT K) ix_tup (pv 0) pe_int (fun _ _ => rfl)) (pe_ix (r := rIxT K) ix_tup (pv 1) pe_int (fun _ _ => rfl))))
  (pss_cons (ps_set (i := 3) nd rfl (.inl rfl) (pe_op op_mulW (pe_ix (r := rIxT K) ix_tup (pv 1) pe_int (fun _ _ => rfl)) (pe_ix (r := rIxT K) ix_tup (pv 0) pe_int (fun _ _ => rfl))))
  (pss_cons (ps_if (pt_cmpR op_lt (pv 2) (pv 3) (nomark _)) (pss_one (ps_ret (pe_un un_neg pe_int))) pss_nil)
  (pss_cons (ps_if (pt_cmpR op_gt (pv 2) (pv 3) (nomark _)) (pss_one (ps_ret pe_int)) pss_nil)
  (pss_one (ps_ret pe_int)))))), ?_⟩)
  · obtain ⟨p, q, x, y, rfl, _⟩ := h
    rfl
  · obtain ⟨p, q, x, y, rfl, hx, hy, k⟩ := h
    refine q_asg (ev_op (ev_x1 rfl hx) (ev_x2 rfl hy) (rv_I (hx.2.1.cmul hy.2.2 (by omega)))) fun H1 e1 => ?_
    refine q_asg (ev_op (ev_x1 rfl (hy.ext e1)) (ev_x2 rfl (hx.ext e1)) (rv_I (hy.2.1.cmul hx.2.2 (by omega)))) fun H2 e2 => ?_
    refine q_when (et_test (ev_op (ev_var rfl) (ev_var rfl) rv_I0)) (fun ht H3 e3 => ?_) (fun ht H3 e3 => ?_)
    · refine s_ret (ev_un ev_c ru_neg) fun H4 e4 => ?_
      have e : cmp3 (x.1 * y.2) (y.1 * x.2) = -1 := if_pos (of_decide_eq_true ht)
      rw [e] at k
      exact k _ (((e1.trans e2).trans e3).trans e4)
    · have h1 : ¬ x.1 * y.2 < y.1 * x.2 := of_decide_eq_false ht
      refine q_when (et_test (ev_op (ev_var rfl) (ev_var rfl) rv_I0)) (fun ht H4 e4 => ?_) (fun ht H4 e4 => ?_)
      · refine s_ret ev_c fun H5 e5 => ?_
        have e : cmp3 (x.1 * y.2) (y.1 * x.2) = 1 := (if_neg h1).trans (if_pos (of_decide_eq_true ht))
        rw [e] at k
        exact k _ ((((e1.trans e2).trans e3).trans e4).trans e5)
      · refine s_ret ev_c fun H5 e5 => ?_
        have e : cmp3 (x.1 * y.2) (y.1 * x.2) = 0 := (if_neg h1).trans (if_neg (of_decide_eq_false ht))
        rw [e] at k
        exact k _ ((((e1.trans e2).trans e3).trans e4).trans e5)
end
end Hs
namespace Hs
open PySem PySem.Spec PyProof.Rows L2 Evl
def spBetw (K : PySem.W.Frag) (n m : Nat) : Sp := fun vs H Q _ => ∃ p q w u a b, vs = [.ref p, .int a, .ref q, .int b] ∧ Ws K H p w ∧ Ws K H q u ∧ w.length = u.length ∧ w.length ≤ 3 ∧ BdL n w ∧ BdL n u ∧ Bd m a ∧ Bd m b ∧ gl 0 (mid w a u b) ≠ 0 ∧ RetU ((betw w a u b).map V.int) H Q
theorem mid_bd {n m : Nat} {w u : List Int} {a b : Int} (hw : BdL n w) (hu : BdL n u) (ha : Bd m a) (hb : Bd m b) : BdL (n + m + 1) (mid w a u b) := by
  intro x hx
  obtain ⟨k, hk⟩ := List.getElem?_of_mem hx
  unfold mid comb at hk
  rw [List.getElem?_zipWith] at hk
  cases h1 : w[k]? with
  | none => rw [h1] at hk; cases hk
  | some i =>
    cases h2 : u[k]? with
    | none => rw [h1, h2] at hk; cases hk
    | some j =>
      rw [h1, h2] at hk
      rw [← Option.some.inj hk]
      have a' : Bd m (a.natAbs : Int) := by
        unfold Bd at *
        omega
      have b' : Bd m (b.natAbs : Int) := by
        unfold Bd at *
        omega
      exact ((hw i (List.mem_of_getElem? h1)).mul b').add ((hu j (List.mem_of_getElem? h2)).mul a')
theorem gl_bd {n : Nat} {ws : List Int} (h : BdL n ws) (hn : gl 0 ws ≠ 0) : Bd n (gl 0 ws) := by
  obtain ⟨w, h1, h2⟩ : ∃ w ∈ ws, w ≠ 0 := by
    refine Decidable.byContradiction fun hh => hn ?_
    have : ∀ w ∈ ws, w = 0 := fun w hw => Decidable.byContradiction fun q => hh ⟨w, hw, q⟩
    clear h hn hh
    induction ws with
    | nil => rfl
    | cons x xs ih =>
      have e : x = 0 := this x (List.mem_cons_self ..)
      subst e
      show gl ((Int.gcd 0 0 : Nat) : Int) xs = 0
      exact ih fun w hw => this w (List.mem_cons_of_mem _ hw)
  have dv := (gl_dvd (ws := ws) (g := 0)).2 w h1
  refine Nat.lt_of_le_of_lt (Nat.le_of_dvd (by omega) (Int.natAbs_dvd_natAbs.mpr dv)) (h w h1)
section
variable {P : Program} {w : World} {K : PySem.W.Frag} {mg : Str → Option Value} {base : Heap} {f : Addr} {fd : FuncData} {n m : Nat}
abbrev sBetw : Stmt := top 9
theorem scBetw : FnScope ["one", "one_height", "other", "other_height", "weights", "part", "weight", "other_weight"] ["one", "one_height", "other", "other_height"] (defScope sBetw) := ⟨rfl, rfl, rfl, by decide +kernel, rfl, by decide +kernel, by decide +kernel⟩
theorem ok_betw (F : FnP K "between" sBetw f fd) (O_common_part : Own P w K mg base 1 "common_part" ["one", "other"] spGcd) (g_abs : mg "abs" = none) (g_zip : mg "zip" = none) (g_tuple : mg "tuple" = none) (hn : n + m + 1 ≤ 13400) : FnOk P w K mg base CX0 2 f fd ["one", "one_height", "other", "other_height"] (spBetw K n m) := by
  have nd := scBetw.nd
  refine F.ok scBetw (fun vs H Q E h => ?_) (fun cdv A outer s H vs Q E hr h => ⟨_, PSs.nox (pss_cons (ps_setLc (i := 4) (own := [("weight", 6), ("other_weight", 7)]) (g := gTup K 2 (gCons (gName 6) (gCons (gName 7) gNil))) rfl nd rfl rfl (sw_true rfl rfl rfl (by decide +kernel)) (RZ.pi_zipA (by rfl) g_zip (pa_cons (pv 0) (pa_cons (pv 2) pa_nil))) (blkOk_by (N := ["one", "one_height", "other", "other_height", "weights", "part", "weight", "other_weight"]) (sc := defScope (Hs.top 9)) (by decide +kernel)) (fun _ _ _ _ _ => (pg_tup rfl (pgs_cons (pg_name (i := 6) nd rfl (Or.inl rfl)) (pgs_cons (pg_name (i := 7) nd rfl (Or.inl rfl)) pgs_nil)))) (fun _ _ _ _ _ => pts_nil) (fun _ _ _ _ _ => (pe_op op_add (pe_op op_mulW (pv 6) (pe_callB call_abs (by rfl) g_abs (by decide +kernel) (pa_cons (pv 3) pa_nil))) (pe_op op_mulW (pv 7) (pe_callB call_abs (by rfl) g_abs (by decide +kernel) (pa_cons (pv 1) pa_nil))))))
  (pss_cons (ps_set (i := 5) nd rfl (.inr rfl) pe_int)
  (pss_cons (ps_for PassesOwn.never rfl (pi_list (pv 4)) (pg_name (i := 6) nd rfl (.inl rfl)) (pss_one (ps_set (i := 5) nd rfl (.inr rfl) (Hs.pe_own O_common_part hr (by first | decide | omega) (by rfl) (pa_cons (pv 5) (pa_cons (pv 6) pa_nil))))))
  (pss_one (ps_ret (pe_callTy call_tuple_of (by rfl) g_tuple (by decide +kernel) (pa_cons (pe_lc (own := [("weight", 6)]) rfl nd (pi_list (pv 4)) (blkOk_by (N := ["one", "one_height", "other", "other_height", "weights", "part", "weight", "other_weight"]) (sc := defScope (Hs.top 9)) (by decide +kernel)) (fun _ _ _ _ _ => (pg_name (i := 6) nd rfl (Or.inl rfl))) (fun _ _ _ _ _ => pts_nil) (fun _ _ _ _ _ => (pe_op Hs.op_fdivG (pv 6) (pv 5)))) pa_nil))))))), ?_⟩)
  · obtain ⟨p, q, w, u, a, b, rfl, _⟩ := h
    rfl
  · obtain ⟨p, q, w, u, a, b, rfl, hw, hu, hl, hz, bw, bu, ba, bb, gn, k⟩ := h
    have ml : (mid w a u b).length = w.length := comb_len hl
    refine q_asgL (xs := (mid w a u b).map V.int) ?_ fun t H1 nt e1 ht => ?_
    · rw [← given_ints (n := w.length) (f := fun k => w.getD k 0 * (b.natAbs : Int) + u.getD k 0 * (a.natAbs : Int)) ml (fun k x hx => zip_at hx)]
      have e0 : w.length = (w.map V.int).length := (List.length_map ..).symm
      rw [e0]
      refine el_zipT _ (ev_var rfl) (ev_var rfl) hw hu (by simp [hl]) (by simp; omega) (fun _ _ => rfl) (fun k x y H1 e1 hx hy => ?_)
      obtain ⟨i, hi, rfl⟩ := at_int hx
      obtain ⟨j, hj, rfl⟩ := at_int hy
      rw [getD_at hi, getD_at hj]
      have a' : Bd m (a.natAbs : Int) := by
        unfold Bd at *
        omega
      have b' : Bd m (b.natAbs : Int) := by
        unfold Bd at *
        omega
      exact ev_op (ev_op (ev_var rfl) (ev_cb (ea_cons (ev_var rfl) ea_nil) rc_abs) (rv_I ((bw i (List.mem_of_getElem? hi)).cmul b' (by omega)))) (ev_op (ev_var rfl) (ev_cb (ea_cons (ev_var rfl) ea_nil) rc_abs) (rv_I ((bu j (List.mem_of_getElem? hj)).cmul a' (by omega)))) rv_I0
    · have bm := mid_bd bw bu ba bb
      unfold betw at k
      generalize mid w a u b = ws at *
      refine q_asg ev_c fun H2 e2 => ?_
      have e12 := e1.trans e2
      refine q_forLn (a := t) (xs := ws.map V.int) (ev_var rfl) (sq_of (e2 _ _ ht)) (fun i σ' H' => Ex H2 H' ∧ ∃ v : Option V, σ' = [some (.ref p), some (.int a), some (.ref q), some (.int b), some (.ref t), some (.int (gl 0 (ws.take i))), v, none]) ?_ ?_ ?_ ?_
      · intro H3 e3
        exact ⟨e3, none, rfl⟩
      · rintro i σ' H' _ ⟨e, _⟩
        exact sq_of (e _ _ (e2 _ _ ht))
      · rintro i x σ' H' hx ⟨e, v, rfl⟩
        obtain ⟨j, hj, rfl⟩ := at_int hx
        refine s_asg (ev_call (ea_cons (ev_var rfl) (ea_cons (ev_var rfl) ea_nil)) fun H1 e1 Q' q E' => ⟨_, _, rfl, q⟩) fun H3 e3 => ⟨e.trans e3, some (.int j), ?_⟩
        have eg : ∀ (g : Int) (l : List Int) (y : Int), gl g (l ++ [y]) = (Int.gcd (gl g l) y : Int) := by
          intro g l
          induction l generalizing g with
          | nil => intro y; rfl
          | cons z l ih => intro y; exact ih _ y
        rw [List.take_add_one, hj, show (some j).toList = [j] from rfl, eg]
        rfl
      · rintro σ' H' ⟨e, v, rfl⟩
        rw [List.length_map, List.take_length]
        have bg := gl_bd bm gn
        have e2' := e12.trans e
        have hl3 : ws.length ≤ 3 := by omega
        refine s_retU (eu_tuple (K := K) (xs := (ws.map (·.fdiv (gl 0 ws))).map V.int) ?_) fun r H3 hr e3 h3 => k r H3 (fresh_back e2' hr) (e2'.trans e3) h3
        rw [← given_ints (n := (ws.map V.int).length) (f := fun k => (ws.getD k 0).fdiv (gl 0 ws)) (by simp) (fun k x hx => ?_)]
        · refine el_lcL (K := K) (xs := ws.map V.int) (fun _ => true) _ (ev_var rfl) (sq_of (e _ _ (e2 _ _ ht))) (by simp; omega) (fun _ => rfl) (fun i x H1 e1 hx H2 e2 Q q => q H2 (Ex.refl H2)) (fun i x H1 e1 hx _ => ?_)
          obtain ⟨j, hj, rfl⟩ := at_int hx
          rw [getD_at hj]
          exact ev_op (ev_var rfl) (ev_var rfl) (rv_I (divX gn (bm j (List.mem_of_getElem? hj)) (by omega) hn))
        · rw [List.getElem?_map] at hx
          obtain ⟨y, h1, h2⟩ := Option.map_eq_some_iff.mp hx
          rw [getD_at h1, ← h2]
end
end Hs
namespace Hs
open PySem PySem.Spec PyProof.Rows L2 Evl
theorem st_upd {K : PySem.W.Frag} {H : Hp} {l p : Addr} {xs ys zs : List V} (h : SqT K H p zs) (hl : H l = some (.lst xs)) : SqT K (upd H l (.lst ys)) p zs := by
  rcases h with (h | ⟨o, h⟩) | h
  · refine .inl (.inl ?_)
    rw [upd_ne (ne_of h hl (by intro z; cases z))]
    exact h
  · refine .inl (.inr ⟨o, ?_⟩)
    rw [upd_ne (ne_of h hl (by intro z; cases z))]
    exact h
  · exact .inr h
/-- weights that stand, in a row -/
def WsL (K : PySem.W.Frag) (H : Hp) (ps : List Addr) (ws : List (List Int)) : Prop := ps.length = ws.length ∧ ∀ (i : Nat) (p : Addr) (w : List Int), ps[i]? = some p → ws[i]? = some w → Ws K H p w
theorem WsL.ext {K : PySem.W.Frag} {H H' : Hp} {ps : List Addr} {ws : List (List Int)} (h : WsL K H ps ws) (e : Ex H H') : WsL K H' ps ws := ⟨h.1, fun i p u hp hu => (h.2 i p u hp hu).ext e⟩
theorem WsL.snoc {K : PySem.W.Frag} {H : Hp} {ps : List Addr} {us : List (List Int)} {p : Addr} {u : List Int} (h : WsL K H ps us) (hp : Ws K H p u) : WsL K H (ps ++ [p]) (us ++ [u]) := by
  refine ⟨by rw [List.length_append, List.length_append, h.1] <;> rfl, fun j r v hr hv => ?_⟩
  have hl := h.1
  by_cases hj : j < ps.length
  · rw [List.getElem?_append_left hj] at hr
    rw [List.getElem?_append_left (by omega)] at hv
    exact h.2 j r v hr hv
  · rw [List.getElem?_append_right (by omega)] at hr
    rw [List.getElem?_append_right (by omega)] at hv
    have e0 : j - ps.length = 0 := by
      have : j - ps.length < 1 := (List.getElem?_eq_some_iff.mp hr).1
      omega
    have e1 : j - us.length = 0 := by omega
    rw [e0] at hr
    rw [e1] at hv
    cases hr
    cases hv
    exact hp
theorem WsL.upd {K : PySem.W.Frag} {H : Hp} {l : Addr} {ps : List Addr} {ws : List (List Int)} {xs ys : List V} (h : WsL K H ps ws) (hl : H l = some (.lst xs)) : WsL K (upd H l (.lst ys)) ps ws := ⟨h.1, fun i p u hp hu => st_upd (h.2 i p u hp hu) hl⟩
def RetW (K : PySem.W.Frag) (ws : List (List Int)) (H : Hp) (Q : VK) : Prop := ∀ (r : Addr) (ps : List Addr) (H2 : Hp), Ex H H2 → SqL K H2 r (ps.map V.ref) → WsL K H2 ps ws → Q (.ref r) H2
theorem dot_bd {n m : Nat} {w h : List Int} (hw : BdL n w) (hh : BdL m h) (hl : w.length = h.length) (h3 : w.length ≤ 3) : Bd (n + m + 2) (dot w h) := by
  have key : ∀ {a b : Int}, a ∈ w → b ∈ h → Bd (n + m) (a * b) := fun ha hb => (hw _ ha).mul (hh _ hb)
  unfold dot
  match w, h, hl, h3 with
  | [], [], _, _ => exact Bd.mono (n := 0) (by unfold Bd; decide) (by omega)
  | [a], [x], _, _ =>
    have := (key (a := a) (b := x) (by simp) (by simp)).mono (show n + m ≤ n + m + 2 by omega)
    simpa using this
  | [a, b], [x, y], _, _ =>
    have := ((key (a := a) (b := x) (by simp) (by simp)).add (key (a := b) (b := y) (by simp) (by simp))).mono (show n + m + 1 ≤ n + m + 2 by omega)
    simpa using this
  | [a, b, c], [x, y, z], _, _ =>
    have := ((key (a := a) (b := x) (by simp) (by simp)).mono (show n + m ≤ n + m + 1 by omega)).add ((key (a := b) (b := y) (by simp) (by simp)).add (key (a := c) (b := z) (by simp) (by simp)))
    simpa using this
theorem fdiv_bd {n : Nat} {x g : Int} (h : Bd n x) (hg : g ∣ x) : Bd n (x.fdiv g) := by
  rw [Int.fdiv_eq_ediv_of_dvd hg]
  obtain ⟨y, rfl⟩ := hg
  unfold Bd at *
  by_cases h0 : g = 0
  · subst h0
    simp
    exact Nat.two_pow_pos n
  · rw [Int.mul_ediv_cancel_left _ h0]
    rw [Int.natAbs_mul] at h
    exact Nat.lt_of_le_of_lt (Nat.le_mul_of_pos_left _ (by omega)) h
theorem betw_bd {n m : Nat} {w u : List Int} {a b : Int} (hw : BdL n w) (hu : BdL n u) (ha : Bd m a) (hb : Bd m b) : BdL (n + m + 1) (betw w a u b) := by
  intro x hx
  obtain ⟨y, hy, rfl⟩ := List.mem_map.mp hx
  exact fdiv_bd (mid_bd hw hu ha hb y hy) ((gl_dvd (ws := mid w a u b) (g := 0)).2 y hy)
/-- all of some points are weights of k within 2 ^ n -/
def Pts' (k n : Nat) (ws : List (List Int)) : Prop := ∀ w ∈ ws, Wt k w ∧ BdL n w
theorem cut_pts {k n m : Nat} {h : List Int} {ws : List (List Int)} (hw : Pts' k n ws) (hh : BdL m h) (hl : h.length = k) (h3 : k ≤ 3) : Pts' k (n + (n + m + 2) + 1) (cutA h ws) := by
  intro x hx
  unfold cutA at hx
  rcases cutL_mem hx with ⟨q1, q2⟩ | ⟨q, q1, p, p1, hc, rfl⟩
  · exact ⟨(hw x q1).1, fun y hy => ((hw x q1).2 y hy).mono (by omega)⟩
  · have qm : q ∈ ws := by
      rcases List.mem_cons.mp q1 with rfl | q1
      · exact lastD_mem (fun z => by rw [z] at p1; cases p1)
      · exact q1
    have hq := hw q qm
    have hp := hw p p1
    exact ⟨(betw_ok hq.1 hp.1 hc).1, betw_bd hq.2 hp.2 (dot_bd hq.2 hh (hq.1.len.trans hl.symm) (by rw [hq.1.len]; exact h3)) (dot_bd hp.2 hh (hp.1.len.trans hl.symm) (by rw [hp.1.len]; exact h3))⟩
theorem emit_len (h prev p : List Int) : (emit h prev p).length ≤ 2 := by
  unfold emit
  rw [List.length_append]
  split <;> split <;> simp
theorem cutL_len {h : List Int} : ∀ {prev : List Int} {ws : List (List Int)}, (cutL h prev ws).length ≤ 2 * ws.length
  | prev, [] => Nat.le_refl _
  | prev, p :: ps => by
    have := cutL_len (h := h) (prev := p) (ws := ps)
    have := emit_len h prev p
    simp only [cutL, List.length_append, List.length_cons]
    omega
section
variable {K : PySem.W.Frag} {σ : L2.St} {H : Hp} {tl : TE} {tu tz : TS} {D : Ends}
theorem q_forEnum {a : Addr} {xs : List V} {i j : Nat} (h : Ev tl σ H (.ref a)) (hx : SqL K H a xs) (Pv : Nat → L2.St → Hp → Prop) (h0 : ∀ H1, Ex H H1 → Pv 0 σ H1) (hG : ∀ k σ' H', k ≤ xs.length → Pv k σ' H' → SqL K H' a xs)
    (hs : ∀ (k : Nat) (x : V) (σ' : L2.St) (H' : Hp) (T : Addr), xs[k]? = some x → Pv k σ' H' → H' T = none → tu { D with nx := Pv (k + 1), ct := Pv (k + 1), bk := tz D } ((σ'.set i (some (.int (k : Nat)))).set j (some x)) (upd H' T (.tup [.int (k : Nat), x])))
    (hd : ∀ σ' H', Pv xs.length σ' H' → tz D σ' H') : tSeq (tFor (iEnum K (tCons tl tNil)) (gTup K 2 (gCons (gName i) (gCons (gName j) gNil))) tu) tz D σ H := by
  refine h H (Ex.refl H) _ fun H1 e1 => ⟨a, xs, rfl, ex_l e1 hx, ?_⟩
  refine for_it (D := { D with nx := tz D }) (walk_enum (K := K) (a := a) (xs := xs)) Pv (h0 H1 e1) hG (fun k x σ' H' H'' hk p y => ?_) hd
  obtain ⟨T, u, v, rfl, hT, rfl, f1, f2⟩ := y
  cases f1
  exact ⟨T, _, rfl, st_of upd_same, rfl, _, _, rfl, _, _, rfl, rfl, hs k v σ' H' T f2 p hT⟩
theorem walk_S2 {a b : Addr} {xs ys : List V} (hl : xs.length = ys.length) : Walk (ItS2 K a b) xs.length (fun H => SqT K H a xs ∧ SqT K H b ys) (YPair (fun i => xs[i]?) (fun i => ys[i]?)) := by
  refine ⟨fun i _ hi q => ?_, fun _ q => ⟨xs, ys, q.1, q.2, Nat.le_refl _⟩, fun i H v H' _ q y => ?_⟩
  · have h2 : i < ys.length := by omega
    exact ⟨xs, ys, xs[i], ys[i], q.1, q.2, by simp [hi], by simp [h2]⟩
  · obtain ⟨T, x, z, h1, h2, h3, h4, h5⟩ := y
    exact ⟨T, x, z, h1, h2, h3, h4 xs q.1, h5 ys q.2⟩
theorem q_forS2 {r a b : Addr} {xs ys : List V} {i : Nat} (h : Ev tl σ H (.ref r)) (hr : SqL K H r [.ref a, .ref b]) (hx : SqT K H a xs) (hy : SqT K H b ys) (hl : xs.length = ys.length) (Pv : Nat → L2.St → Hp → Prop) (h0 : ∀ H1, Ex H H1 → Pv 0 σ H1) (hG : ∀ k σ' H', k ≤ xs.length → Pv k σ' H' → Ex H H')
    (hs : ∀ (k : Nat) (x y : V) (σ' : L2.St) (H' : Hp) (T : Addr), xs[k]? = some x → ys[k]? = some y → Pv k σ' H' → H' T = none → tu { D with nx := Pv (k + 1), ct := Pv (k + 1), bk := tz D } (σ'.set i (some (.ref T))) (upd H' T (.tup [x, y])))
    (hd : ∀ σ' H', Pv xs.length σ' H' → tz D σ' H') : tSeq (tFor (iZipS2 K tl) (gName i) tu) tz D σ H := by
  refine h H (Ex.refl H) _ fun H1 e1 => ⟨r, a, b, xs, ys, rfl, ex_l e1 hr, ex_t e1 hx, ex_t e1 hy, ?_⟩
  refine for_it (D := { D with nx := tz D }) (walk_S2 (K := K) (a := a) (b := b) hl) Pv (h0 H1 e1) (fun k σ' H' hk p => ⟨ex_t (hG k σ' H' hk p) hx, ex_t (hG k σ' H' hk p) hy⟩) (fun k x σ' H' H'' hk p y => ?_) hd
  obtain ⟨T, u, v, rfl, hT, rfl, f1, f2⟩ := y
  exact hs k u v σ' H' T f1 f2 p hT
end
def spCut (K : PySem.W.Frag) (k n m : Nat) : Sp := fun vs H Q _ => ∃ (l q : Addr) (ps : List Addr) (ws : List (List Int)) (h : List Int), vs = [.ref l, .ref q] ∧ SqL K H l (ps.map V.ref) ∧ WsL K H ps ws ∧ Pts' k n ws ∧ ws.length ≤ 1000 ∧ Ws K H q h ∧ h.length = k ∧ BdL m h ∧ RetW K (cutA h ws) H Q
/-- the point ahead, around -/
theorem at_prev {ps : List Addr} {ws : List (List Int)} {K : PySem.W.Frag} {H : Hp} {k : Nat} (hw : WsL K H ps ws) (hk : k < ws.length) : ∃ pb, atI (ps.map V.ref) ((k : Int) - 1) = some (.ref pb) ∧ Ws K H pb (lastD (lastD [] ws) (ws.take k)) ∧ lastD (lastD [] ws) (ws.take k) ∈ ws := by
  obtain ⟨hl, hW⟩ := hw
  cases k with
  | zero =>
    have hne : ws ≠ [] := fun z => by rw [z] at hk; cases hk
    have hp : ps.length - 1 < ps.length := by omega
    have e1 : ws[ps.length - 1]? = some (lastD [] ws) := by
      have : ∀ {l : List (List Int)} {d : List Int}, l ≠ [] → l[l.length - 1]? = some (lastD d l) := by
        intro l
        induction l with
        | nil => exact fun h => absurd rfl h
        | cons x xs ih =>
          intro d _
          cases xs with
          | nil => rfl
          | cons y ys =>
            have := ih (d := x) (by simp)
            simpa [lastD] using this
      rw [hl]
      exact this hne
    refine ⟨ps[ps.length - 1], ?_, hW _ _ _ (List.getElem?_eq_getElem hp) e1, lastD_mem hne⟩
    have e2 : ps = ps.take (ps.length - 1) ++ [ps[ps.length - 1]] := by
      have := List.take_append_drop (ps.length - 1) ps
      rw [List.drop_eq_getElem_cons hp] at this
      have e3 : ps.drop (ps.length - 1 + 1) = [] := List.drop_eq_nil_of_le (by omega)
      rw [e3] at this
      exact this.symm
    have e4 : ps.map V.ref = (ps.take (ps.length - 1)).map V.ref ++ [.ref ps[ps.length - 1]] := by
      conv => lhs; rw [e2]
      rw [List.map_append]
      rfl
    rw [e4]
    exact atI_last _ _
  | succ k =>
    have hk1 : k < ws.length := by omega
    have hk2 : k < ps.length := by omega
    have e1 : lastD (lastD [] ws) (ws.take (k + 1)) = ws[k] := by
      rw [List.take_add_one, List.getElem?_eq_getElem hk1]
      exact lastD_app
    refine ⟨ps[k], ?_, ?_, ?_⟩
    · have e2 : ((k + 1 : Nat) : Int) - 1 = (k : Int) := by omega
      rw [e2]
      refine atI_nat ?_
      rw [List.getElem?_map, List.getElem?_eq_getElem hk2]
      rfl
    · rw [e1]
      exact hW _ _ _ (List.getElem?_eq_getElem hk2) (List.getElem?_eq_getElem hk1)
    · rw [e1]
      exact List.getElem_mem hk1
theorem ev_height {K : PySem.W.Frag} {σ : L2.St} {H : Hp} {n m i j : Nat} {p q : Addr} {w h : List Int} {E : XK} (h1 : σ[i]? = some (some (.ref p))) (h2 : σ[j]? = some (some (.ref q))) (hw : Ws K H p w) (hh : Ws K H q h) (hl : w.length = h.length) (h3 : w.length ≤ 3) (bw : BdL n w) (bh : BdL m h) : Ev (tCall (spHeight K n m) [] E (tCons (tVar i) (tCons (tVar j) tNil))) σ H (.int (dot w h)) :=
  ev_call (ea_cons (ev_var h1) (ea_cons (ev_var h2) ea_nil)) fun H1 e1 Q' q' E' => ⟨p, q, w, h, rfl, hw.ext e1, hh.ext e1, hl, h3, bw, bh, q'⟩
section
variable {P : Program} {w : World} {K : PySem.W.Frag} {mg : Str → Option Value} {base : Heap} {f : Addr} {fd : FuncData} {k n m : Nat}
abbrev sCut : Stmt := top 10
theorem scCut : FnScope ["points", "heights", "kept", "at", "point", "before", "here", "there"] ["points", "heights"] (defScope sCut) := ⟨rfl, rfl, rfl, by decide +kernel, rfl, by decide +kernel, by decide +kernel⟩
theorem ok_cut (F : FnP K "cut" sCut f fd) (O_height : Own P w K mg base 1 "height" ["weights", "heights"] (spHeight K n m)) (O_between : Own P w K mg base 2 "between" ["one", "one_height", "other", "other_height"] (spBetw K n (n + m + 2))) (g_enumerate : mg "enumerate" = none) (h3 : k ≤ 3) (hb : n + m + 2 ≤ 40000) : FnOk P w K mg base CX0 3 f fd ["points", "heights"] (spCut K k n m) := by
  have nd := scCut.nd
  refine F.ok scCut (fun vs H Q E h => ?_) (fun cdv A outer s H vs Q E hr h => ⟨_, PSs.nox (pss_cons (ps_set (i := 2) nd rfl (.inl rfl) (pe_lst pa_nil))
  (pss_cons (ps_for PassesOwn.never rfl (pi_enum (by rfl) g_enumerate (pa_cons (pv 0) pa_nil)) (pg_tup rfl (pgs_cons (pg_name (i := 3) nd rfl (.inl rfl)) (pgs_cons (pg_name (i := 4) nd rfl (.inl rfl)) pgs_nil))) (pss_cons (ps_set (i := 5) nd rfl (.inl rfl) (pe_ix (r := rIxL K) ix_list (pv 0) (pe_op op_sub (pv 3) pe_int) (fun _ _ => rfl)))
  (pss_cons (ps_set (i := 6) nd rfl (.inl rfl) (Hs.pe_own O_height hr (by first | decide | omega) (by rfl) (pa_cons (pv 4) (pa_cons (pv 1) pa_nil))))
  (pss_cons (ps_set (i := 7) nd rfl (.inl rfl) (Hs.pe_own O_height hr (by first | decide | omega) (by rfl) (pa_cons (pv 5) (pa_cons (pv 1) pa_nil))))
  (Evl.pss_cut (ps_if (pt_cmpR op_lt (pe_op op_mulW (pv 6) (pv 7)) pe_int (nomark _)) (pss_one (ps_expr (pe_bm PySem.F.plainAttrs_list PySem.F.slot_list_append PySem.F.type_list_append mt_append (pv 2) (pa_cons (Hs.pe_own O_between hr (by first | decide | omega) (by rfl) (pa_cons (pv 5) (pa_cons (pv 7) (pa_cons (pv 4) (pa_cons (pv 6) pa_nil))))) pa_nil)))) pss_nil)
  (pss_one (ps_if (pt_cmpR op_ge (pv 6) pe_int (nomark _)) (pss_one (ps_expr (pe_bm PySem.F.plainAttrs_list PySem.F.slot_list_append PySem.F.type_list_append mt_append (pv 2) (pa_cons (pv 4) pa_nil)))) pss_nil)))))))
  (pss_one (ps_ret (pv 2))))), ?_⟩)
  · obtain ⟨l, q, ps, ws, h, rfl, _⟩ := h
    rfl
  · obtain ⟨l, q, ps, ws, h, rfl, hl, hw, hp, hz, hh, hk, bh, ret⟩ := h
    refine q_asgL (xs := []) (el_lst ea_nil (by simp)) fun kl H0 hkl e0 h0 => ?_
    refine q_forEnum (K := K) (a := l) (xs := ps.map V.ref) (ev_var rfl) (ex_l e0 hl) (fun i σ' H' => (∃ v3 v4 v5 v6 v7 : Option V, σ' = [some (.ref l), some (.ref q), some (.ref kl), v3, v4, v5, v6, v7]) ∧ Ex H H' ∧ ∃ acc : List Addr, H' kl = some (.lst (acc.map V.ref)) ∧ WsL K H' acc (cutL h (lastD [] ws) (ws.take i))) ?_ ?_ ?_ ?_
    · intro H1 e1
      exact ⟨⟨none, none, none, none, none, rfl⟩, e0.trans e1, [], e1 _ _ h0, rfl, fun i p u h => by cases h⟩
    · rintro i σ' H' _ ⟨_, e, _⟩
      exact ex_l e hl
    · rintro i x σ' H' T hx ⟨⟨v3, v4, v5, v6, v7, rfl⟩, e, acc, hkl', hacc⟩ hT
      rw [List.getElem?_map] at hx
      obtain ⟨p, hpi, rfl⟩ := Option.map_eq_some_iff.mp hx
      have hip : i < ps.length := (List.getElem?_eq_some_iff.mp hpi).1
      have hiw : i < ws.length := by
        have := hw.1
        omega
      have hwi : ws[i]? = some ws[i] := List.getElem?_eq_getElem hiw
      have hpw := hp ws[i] (List.getElem_mem hiw)
      obtain ⟨pb, hat, hbW, hbm⟩ := at_prev hw hiw
      have hbw := hp _ hbm
      generalize hprev : lastD (lastD [] ws) (ws.take i) = prev at hbW hbm hbw
      generalize hcur : ws[i] = cur at hwi hpw
      have eT := Ex.new (o := .tup [.int (i : Nat), .ref p]) hT
      have kT := eT _ _ hkl'
      have e1 := e.trans eT
      have aT := hacc.ext eT
      generalize upd H' T (.tup [.int (i : Nat), .ref p]) = H1 at eT kT e1 aT ⊢
      show tSeq (tAsg _ _) _ _ [some (.ref l), some (.ref q), some (.ref kl), some (.int (i : Int)), some (.ref p), v5, v6, v7] H1
      refine q_asg (v := .ref pb) (ev_op (ev_var rfl) (ev_op (ev_var rfl) ev_c rv_I0) (rv_ixL (ex_l e1 hl) hat)) fun H2 e2 => ?_
      have e12 := e1.trans e2
      refine q_asg (ev_height (i := 4) (j := 1) rfl rfl ((hw.2 i p cur hpi hwi).ext e12) (hh.ext e12) (hpw.1.len.trans hk.symm) (by rw [hpw.1.len]; exact h3) hpw.2 bh) fun H3 e3 => ?_
      have e13 := e12.trans e3
      refine q_asg (ev_height (i := 5) (j := 1) rfl rfl (hbW.ext e13) (hh.ext e13) (hbw.1.len.trans hk.symm) (by rw [hbw.1.len]; exact h3) hbw.2 bh) fun H4 e4 => ?_
      have e14 := e13.trans e4
      have e24 := (e2.trans e3).trans e4
      have k4 := e24 _ _ kT
      have a4 := aT.ext e24
      have bp := dot_bd hpw.2 bh (hpw.1.len.trans hk.symm) (by rw [hpw.1.len]; exact h3)
      have bb := dot_bd hbw.2 bh (hbw.1.len.trans hk.symm) (by rw [hbw.1.len]; exact h3)
      have hal : acc.length ≤ 2000 := by
        have h1 := cutL_len (h := h) (prev := lastD [] ws) (ws := ws.take i)
        rw [← hacc.1, List.length_take] at h1
        omega
      have esn : cutL h (lastD [] ws) (ws.take (i + 1)) = cutL h (lastD [] ws) (ws.take i) ++ emit h prev cur := by
        rw [List.take_add_one, hwi, ← hprev]
        exact cutL_snoc
      rw [esn]
      generalize cutL h (lastD [] ws) (ws.take i) = done at a4 ⊢
      refine q_cut (M := fun σ' H' => σ' = [some (.ref l), some (.ref q), some (.ref kl), some (.int (i : Int)), some (.ref p), some (.ref pb), some (.int (dot cur h)), some (.int (dot prev h))] ∧ Ex H H' ∧ ∃ acc : List Addr, acc.length ≤ 2001 ∧ H' kl = some (.lst (acc.map V.ref)) ∧ WsL K H' acc (done ++ (if dot cur h * dot prev h < 0 then [betw prev (dot prev h) cur (dot cur h)] else []))) ?_ ?_
      · refine s_when (et_test (ev_op (ev_op (ev_var rfl) (ev_var rfl) (rv_I (bp.cmul bb (by omega)))) ev_c rv_I0)) (fun ht H5 e5 => ?_) (fun ht H5 e5 => ?_)
        · have hc : dot cur h * dot prev h < 0 := of_decide_eq_true ht
          obtain ⟨_, g, g0, gq, _⟩ := betw_ok hbw.1 hpw.1 hc
          refine s_appU (K := K) (l := kl) (xs := acc.map V.ref) (ys := (betw prev (dot prev h) cur (dot cur h)).map V.int) (e5 _ _ k4) (ev_var rfl) ?_ (by rw [List.length_map]; omega) fun b H6 nb e6 hb6 => ?_
          · exact eu_call (ea_cons (ev_var rfl) (ea_cons (ev_var rfl) (ea_cons (ev_var rfl) (ea_cons (ev_var rfl) ea_nil)))) fun H6 e6 Q' q' E' => ⟨pb, p, prev, cur, _, _, rfl, hbW.ext ((e14.trans e5).trans e6), (hw.2 i p cur hpi hwi).ext ((e14.trans e5).trans e6), hbw.1.len.trans hpw.1.len.symm, by rw [hbw.1.len]; exact h3, hbw.2, hpw.2, bb, bp, by rw [gq]; omega, q'⟩
          · have k6 := e6 _ _ (e5 _ _ k4)
            refine ⟨rfl, Ex.mut ((e14.trans e5).trans e6) hkl, acc ++ [b], by rw [List.length_append]; show acc.length + 1 ≤ 2001; omega, by rw [upd_same, List.map_append] <;> rfl, ?_⟩
            rw [if_pos hc]
            exact ((a4.ext (e5.trans e6)).snoc (st_of hb6)).upd k6
        · rw [if_neg (of_decide_eq_false ht), List.append_nil]
          exact ⟨rfl, e14.trans e5, acc, by omega, e5 _ _ k4, a4.ext e5⟩
      · rintro σ' H5 ⟨rfl, e5, acc, hal, k5, a5⟩
        refine s_when (et_test (ev_op (ev_var rfl) ev_c rv_I0)) (fun ht H6 e6 => ?_) (fun ht H6 e6 => ?_)
        · refine s_app (K := K) (l := kl) (xs := acc.map V.ref) (e6 _ _ k5) (ev_var rfl) (ev_var rfl) (by rw [List.length_map]; omega) fun H7 e7 => ?_
          have e57 := e6.trans e7
          refine ⟨⟨_, _, _, _, _, rfl⟩, Ex.mut (e5.trans e57) hkl, acc ++ [p], by rw [upd_same, List.map_append] <;> rfl, ?_⟩
          have hge : 0 ≤ dot cur h := of_decide_eq_true ht
          have := ((a5.ext e57).snoc ((hw.2 i p cur hpi hwi).ext (e5.trans e57))).upd (ys := (acc ++ [p]).map V.ref) (e57 _ _ k5)
          rw [List.append_assoc] at this
          unfold emit
          rw [if_pos hge]
          rw [List.map_append] at this
          exact this
        · have hge : ¬ 0 ≤ dot cur h := of_decide_eq_false ht
          refine ⟨⟨_, _, _, _, _, rfl⟩, e5.trans e6, acc, e6 _ _ k5, ?_⟩
          unfold emit
          rw [if_neg hge, List.append_nil]
          exact a5.ext e6
    · rintro σ' H' ⟨⟨v3, v4, v5, v6, v7, rfl⟩, e, acc, hkl', hacc⟩
      rw [List.length_map, hw.1, List.take_length] at hacc
      exact s_ret (ev_var rfl) fun H2 e2 => ret kl acc H2 (e.trans e2) (sq_of (e2 _ _ hkl')) (hacc.ext e2)
end
end Hs
namespace Hs
open PySem PySem.Spec PyProof.Rows L2 Evl
/-- how many bits the weights may have behind i cuts -/
def bq (m : Nat) : Nat → Nat
  | 0 => 1
  | i + 1 => bq m i + (bq m i + m + 2) + 1
theorem bq_mono {m i j : Nat} (h : i ≤ j) : bq m i ≤ bq m j := by
  induction j with
  | zero =>
    have : i = 0 := by omega
    subst this
    exact Nat.le_refl _
  | succ j ih =>
    by_cases e : i = j + 1
    · subst e
      exact Nat.le_refl _
    · have := ih (by omega)
      show _ ≤ bq m j + (bq m j + m + 2) + 1
      omega
theorem fnok_ex {P : Program} {w : World} {K : PySem.W.Frag} {mg : Str → Option Value} {base : Heap} {CX : CXT} {k : Nat} {f : Addr} {fd : FuncData} {ps : List Str} {sp : Nat → Sp} {N : Nat} (h : ∀ n, n ≤ N → FnOk P w K mg base CX k f fd ps (sp n)) : FnOk P w K mg base CX k f fd ps (fun vs H Q E => ∃ n, n ≤ N ∧ sp n vs H Q E) :=
  ⟨fun vs H Q E ⟨n, hn, q⟩ => (h n hn).len vs H Q E q, fun A outer s H args us vs Q E hr e0 hb r ⟨n, hn, q⟩ => (h n hn).run A outer s H args us vs Q E hr e0 hb r q⟩
def spCutX (K : PySem.W.Frag) (k m N : Nat) : Sp := fun vs H Q E => ∃ n, n ≤ N ∧ spCut K k n m vs H Q E
theorem cutAll_snoc {h : List Int} : ∀ {hs pts : List (List Int)}, cutAll pts (hs ++ [h]) = cutA h (cutAll pts hs)
  | [], pts => rfl
  | k :: hs, pts => cutAll_snoc (hs := hs) (pts := cutA k pts)
theorem cutA_len {h : List Int} {ws : List (List Int)} : (cutA h ws).length ≤ 2 * ws.length := cutL_len
theorem cutAll_pts {k m : Nat} {ws hs : List (List Int)} (hw : Pts' k 1 ws) (hh : ∀ h ∈ hs, BdL m h ∧ h.length = k) (h3 : k ≤ 3) (i : Nat) (hi : i ≤ hs.length) : Pts' k (bq m i) (cutAll ws (hs.take i)) ∧ (cutAll ws (hs.take i)).length ≤ 2 ^ i * ws.length := by
  induction i with
  | zero => exact ⟨hw, by simp [cutAll]⟩
  | succ i ih =>
    obtain ⟨h1, h2⟩ := ih (by omega)
    have hlt : i < hs.length := by omega
    rw [List.take_add_one, List.getElem?_eq_getElem hlt]
    show Pts' _ _ (cutAll ws (hs.take i ++ [hs[i]])) ∧ _
    rw [show (some hs[i]).toList = [hs[i]] from rfl, cutAll_snoc]
    have hm := hh hs[i] (List.getElem_mem hlt)
    refine ⟨cut_pts h1 hm.1 hm.2 h3, ?_⟩
    have := cutA_len (h := hs[i]) (ws := cutAll ws (hs.take i))
    rw [Nat.pow_succ]
    have e : 2 ^ i * 2 * ws.length = 2 * (2 ^ i * ws.length) := by
      rw [Nat.mul_comm (2 ^ i) 2, Nat.mul_assoc]
    omega
theorem rows2_at {x y : List Int} {k : Nat} {a b : Int} (h1 : x[k]? = some a) (h2 : y[k]? = some b) : (rows2 x y)[k]? = some [a, b] := by
  unfold rows2
  rw [List.getElem?_zipWith, h1, h2]
theorem rows2_bd {m : Nat} {x y : List Int} (hx : BdL m x) (hy : BdL m y) : ∀ h ∈ rows2 x y, BdL m h ∧ h.length = 2 := by
  intro h hh
  refine ⟨?_, rows2_len h hh⟩
  obtain ⟨k, hk⟩ := List.getElem?_of_mem hh
  unfold rows2 at hk
  rw [List.getElem?_zipWith] at hk
  cases h1 : x[k]? with
  | none => rw [h1] at hk; cases hk
  | some a =>
    cases h2 : y[k]? with
    | none => rw [h1, h2] at hk; cases hk
    | some b =>
      rw [h1, h2] at hk
      have e := (Option.some.inj hk).symm
      subst e
      intro z hz
      have : z = a ∨ z = b := by simpa using hz
      rcases this with rfl | rfl
      · exact hx _ (List.mem_of_getElem? h1)
      · exact hy _ (List.mem_of_getElem? h2)
theorem rows2_length {x y : List Int} (h : x.length = y.length) : (rows2 x y).length = x.length := by simp [rows2, h]
def spDown (K : PySem.W.Frag) (m N : Nat) : Sp := fun vs H Q _ => ∃ (l r a b : Addr) (ps : List Addr) (ws : List (List Int)) (xs ys : List Int), vs = [.ref l, .ref r] ∧ SqL K H l (ps.map V.ref) ∧ WsL K H ps ws ∧ Pts' 2 1 ws ∧ ws.length ≤ 3 ∧ SqL K H r [.ref a, .ref b] ∧ Ws K H a xs ∧ Ws K H b ys ∧ xs.length = ys.length ∧ xs.length ≤ 6 ∧ BdL m xs ∧ BdL m ys ∧ RetW K (cutAll ws (rows2 xs ys)) H Q
section
variable {P : Program} {w : World} {K : PySem.W.Frag} {mg : Str → Option Value} {base : Heap} {f : Addr} {fd : FuncData} {n m N : Nat}
abbrev sDown : Stmt := top 11
theorem scDown : FnScope ["points", "rows", "left", "heights"] ["points", "rows"] (defScope sDown) := ⟨rfl, rfl, rfl, by decide +kernel, rfl, by decide +kernel, by decide +kernel⟩
theorem ok_down (F : FnP K "cut_down" sDown f fd) (O_cut : Own P w K mg base 3 "cut" ["points", "heights"] (spCutX K 2 m N)) (g_zip : mg "zip" = none) (hN : bq m 5 ≤ N) : FnOk P w K mg base CX0 4 f fd ["points", "rows"] (spDown K m N) := by
  have nd := scDown.nd
  refine F.ok scDown (fun vs H Q E h => ?_) (fun cdv A outer s H vs Q E hr h => ⟨_, PSs.nox (pss_cons (ps_set (i := 2) nd rfl (.inl rfl) (pv 0))
  (pss_cons (ps_for PassesOwn.never rfl (Hs.pi_zipS2 (by rfl) g_zip (pv 1)) (pg_name (i := 3) nd rfl (.inl rfl)) (pss_one (ps_set (i := 2) nd rfl (.inl rfl) (Hs.pe_own O_cut hr (by first | decide | omega) (by rfl) (pa_cons (pv 2) (pa_cons (pv 3) pa_nil))))))
  (pss_one (ps_ret (pv 2))))), ?_⟩)
  · obtain ⟨l, r, a, b, ps, ws, xs, ys, rfl, _⟩ := h
    rfl
  · obtain ⟨l, r, a, b, ps, ws, xs, ys, rfl, hl, hw, hp, hz, hr', hx, hy, hxy, h6, bx, by', ret⟩ := h
    have hrb := rows2_bd bx by'
    have hrl := rows2_length hxy
    refine q_asg (ev_var rfl) fun H0 e0 => ?_
    refine q_forS2 (K := K) (ev_var rfl) (ex_l e0 hr') (ex_t e0 hx) (ex_t e0 hy) (by simp [hxy]) (fun i σ' H' => Ex H0 H' ∧ ∃ (t : Addr) (v : Option V) (ps : List Addr), σ' = [some (.ref l), some (.ref r), some (.ref t), v] ∧ SqL K H' t (ps.map V.ref) ∧ WsL K H' ps (cutAll ws ((rows2 xs ys).take i))) ?_ ?_ ?_ ?_
    · intro H1 e1
      exact ⟨e1, l, none, ps, rfl, ex_l (e0.trans e1) hl, hw.ext (e0.trans e1)⟩
    · rintro k σ' H' _ ⟨e, _⟩
      exact e
    · rintro k x y σ' H' T hx' hy' ⟨e, t, v, qs, rfl, ht, hqs⟩ hT
      obtain ⟨i, hi, rfl⟩ := at_int hx'
      obtain ⟨j, hj, rfl⟩ := at_int hy'
      have eT := Ex.new (o := .tup [V.int i, .int j]) hT
      have hk : k < xs.length := (List.getElem?_eq_some_iff.mp hi).1
      obtain ⟨p1, p2⟩ := cutAll_pts hp hrb (by decide) k (by omega)
      have hat := rows2_at hi hj
      have hm := hrb _ (List.mem_of_getElem? hat)
      have len1 : (cutAll ws ((rows2 xs ys).take k)).length ≤ 1000 := by
        have : 2 ^ k ≤ 2 ^ 5 := Nat.pow_le_pow_right (by decide) (by omega)
        have : 2 ^ k * ws.length ≤ 2 ^ 5 * 3 := Nat.mul_le_mul this hz
        omega
      have nk : bq m k ≤ N := Nat.le_trans (bq_mono (by omega)) hN
      refine ⟨_, rfl, _, rfl, bq m k, nk, t, T, qs, _, [i, j], rfl, ex_l eT ht, hqs.ext eT, p1, len1, st_of upd_same, rfl, hm.1, fun t2 qs2 H2 e2 ht2 hq2 => ?_⟩
      refine ⟨(e.trans eT).trans e2, t2, some (.ref T), qs2, rfl, ht2, ?_⟩
      rw [List.take_add_one, hat, show (some [i, j]).toList = [[i, j]] from rfl, cutAll_snoc]
      exact hq2
    · rintro σ' H' ⟨e, t, v, qs, rfl, ht, hqs⟩
      rw [List.length_map, ← hrl, List.take_length] at hqs
      exact s_ret (ev_var rfl) fun H2 e2 => ret t qs H2 ((e0.trans e).trans e2) (ex_l e2 ht) (hqs.ext e2)
end
/-! ### the least and the greatest share -/
def shr (w : List Int) : Pt := low (w.getD (w.length - 1) 0) (w.getD (w.length - 2) 0 + w.getD (w.length - 1) 0)
def leS (l s : Pt) : Pt := if cmp3 (s.1 * l.2) (l.1 * s.2) < 0 then s else l
def grS (l s : Pt) : Pt := if cmp3 (s.1 * l.2) (l.1 * s.2) > 0 then s else l
def leastS (xs : List Pt) : Pt := xs.foldl leS (xs.getD 0 (0, 1))
def greatS (xs : List Pt) : Pt := xs.foldl grS (xs.getD 0 (0, 1))
/-- two fractions in a tuple -/
def RetP (K : PySem.W.Frag) (x y : Pt) (H : Hp) (Q : VK) : Prop := ∀ (p a b : Addr) (H2 : Hp), Ex H H2 → H2 p = some (.tup [.ref a, .ref b]) → SqT K H2 a (prV x) → SqT K H2 b (prV y) → Q (.ref p) H2
/-- weights with a share: of two or three, the last two not both 0 -/
def ShW (n : Nat) (w : List Int) : Prop := 2 ≤ w.length ∧ w.length ≤ 3 ∧ BdL n w ∧ 0 < w.getD (w.length - 2) 0 + w.getD (w.length - 1) 0
def spEnds (K : PySem.W.Frag) (n : Nat) : Sp := fun vs H Q _ => ∃ (l : Addr) (ps : List Addr) (ws : List (List Int)), vs = [.ref l] ∧ SqL K H l (ps.map V.ref) ∧ WsL K H ps ws ∧ (∀ w ∈ ws, ShW n w) ∧ ws.length ≤ 1000 ∧ (ws = [] → RetV .non H Q) ∧ (ws ≠ [] → RetP K (leastS (ws.map shr)) (greatS (ws.map shr)) H Q)
theorem getD_bd {n : Nat} {w : List Int} (h : BdL n w) (k : Nat) : Bd n (w.getD k 0) := by
  rw [List.getD_eq_getElem?_getD]
  cases hk : w[k]? with
  | none => exact Nat.two_pow_pos n
  | some x => exact h x (List.mem_of_getElem? hk)
theorem shr_bd {n : Nat} {w : List Int} (h : ShW n w) : Bd (n + 1) (shr w).1 ∧ Bd (n + 1) (shr w).2 := by
  obtain ⟨_, _, hb, hp⟩ := h
  have h1 := getD_bd hb (w.length - 1)
  have h2 := getD_bd hb (w.length - 2)
  have hs := h2.add h1
  unfold shr
  refine ⟨Nat.lt_of_le_of_lt (low_b1 (by omega)) (h1.mono (Nat.le_succ _)), Nat.lt_of_le_of_lt (low_b2 (by omega)) hs⟩
theorem foldl_mem {f : Pt → Pt → Pt} (hf : ∀ a b, f a b = a ∨ f a b = b) : ∀ {xs : List Pt} {d : Pt}, xs.foldl f d = d ∨ xs.foldl f d ∈ xs
  | [], d => .inl rfl
  | x :: xs, d => by
    rcases foldl_mem hf (xs := xs) (d := f d x) with h | h
    · rcases hf d x with e | e
      · exact .inl (by rw [List.foldl_cons, h, e])
      · exact .inr (by rw [List.foldl_cons, h, e]; exact List.mem_cons_self ..)
    · exact .inr (List.mem_cons_of_mem _ h)
theorem at_neg1 {w : List Int} (h : 2 ≤ w.length) : atI (w.map V.int) (-1) = some (.int (w.getD (w.length - 1) 0)) ∧ atI (w.map V.int) (-2) = some (.int (w.getD (w.length - 2) 0)) := by
  have g : ∀ k, k < w.length → (w.map V.int)[k]? = some (.int (w.getD k 0)) := fun k hk => by
    rw [List.getElem?_map, List.getElem?_eq_getElem hk, List.getD_eq_getElem?_getD, List.getElem?_eq_getElem hk]
    rfl
  have l : (w.map V.int).length = w.length := List.length_map ..
  constructor
  · unfold atI ixN
    rw [l, if_neg (by decide), if_pos (by omega)]
    have e : (-1 + (w.length : Int)).toNat = w.length - 1 := by omega
    rw [e]
    exact g _ (by omega)
  · unfold atI ixN
    rw [l, if_neg (by decide), if_pos (by omega)]
    have e : (-2 + (w.length : Int)).toNat = w.length - 2 := by omega
    rw [e]
    exact g _ (by omega)
theorem et_tru {K : PySem.W.Frag} {σ : L2.St} {H : Hp} {ta : TE} {p : Addr} {xs : List V} (ha : Ev ta σ H (.ref p)) (h : SqL K H p xs) : EvT (fun σ H Q => ta σ H fun x H' => ∃ k, TruV K x H' k ∧ Q k H') σ H (!xs.isEmpty) := fun H1 e Q q =>
  ha H1 e _ fun H2 e2 => ⟨_, .inl ⟨xs, ex_l (e.trans e2) h, rfl⟩, q H2 e2⟩
section
variable {P : Program} {w : World} {K : PySem.W.Frag} {mg : Str → Option Value} {base : Heap} {f : Addr} {fd : FuncData} {n : Nat}
abbrev sEnds : Stmt := top 12
theorem scEnds : FnScope ["points", "told", "least", "greatest", "share", "point"] ["points"] (defScope sEnds) := ⟨rfl, rfl, rfl, by decide +kernel, rfl, by decide +kernel, by decide +kernel⟩
theorem ok_ends (F : FnP K "end_shares" sEnds f fd) (O_fraction : Own P w K mg base 2 "fraction" ["top", "bottom"] spFracP) (O_order : Own P w K mg base 1 "order" ["one", "other"] (spOrd K (n + 1))) (hn : n + 1 ≤ 13000) : FnOk P w K mg base CX0 3 f fd ["points"] (spEnds K n) := by
  have nd := scEnds.nd
  refine F.ok scEnds (fun vs H Q E h => ?_) (fun cdv A outer s H vs Q E hr h => ⟨_, PSs.nox (pss_cons (ps_if (pt_not (pt_truth (pv 0) (fun _ => rfl))) (pss_one (ps_ret pe_non)) pss_nil)
  (pss_cons (ps_setLc (i := 1) (own := [("point", 5)]) rfl nd rfl rfl (sw_true rfl rfl rfl (by decide +kernel)) (pi_list (pv 0)) (blkOk_by (N := ["points", "told", "least", "greatest", "share", "point"]) (sc := defScope (Hs.top 12)) (by decide +kernel)) (fun _ _ _ _ _ => (pg_name (i := 5) nd rfl (Or.inl rfl))) (fun _ _ _ _ _ => pts_nil) (fun _ _ _ _ _ => (Hs.pe_own O_fraction hr (by first | decide | omega) (by rfl) (pa_cons (pe_ix (r := rIxT K) ix_tup (pv 5) (pe_un un_neg pe_int) (fun _ _ => rfl)) (pa_cons (pe_op op_add (pe_ix (r := rIxT K) ix_tup (pv 5) (pe_un un_neg pe_int) (fun _ _ => rfl)) (pe_ix (r := rIxT K) ix_tup (pv 5) (pe_un un_neg pe_int) (fun _ _ => rfl))) pa_nil)))))
  (pss_cons (ps_asg2 (pe_ix (r := rIxL K) ix_list (pv 1) pe_int (fun _ _ => rfl)) (pg_name (i := 2) nd rfl (.inl rfl)) (pg_name (i := 3) nd rfl (.inl rfl)))
  (pss_cons (ps_for PassesOwn.never rfl (pi_list (pv 1)) (pg_name (i := 4) nd rfl (.inl rfl)) (Evl.pss_cut (ps_if (pt_cmpR op_lt (Hs.pe_own O_order hr (by first | decide | omega) (by rfl) (pa_cons (pv 4) (pa_cons (pv 2) pa_nil))) pe_int (nomark _)) (pss_one (ps_set (i := 2) nd rfl (.inl rfl) (pv 4))) pss_nil)
  (pss_one (ps_if (pt_cmpR op_gt (Hs.pe_own O_order hr (by first | decide | omega) (by rfl) (pa_cons (pv 4) (pa_cons (pv 3) pa_nil))) pe_int (nomark _)) (pss_one (ps_set (i := 3) nd rfl (.inl rfl) (pv 4))) pss_nil))))
  (pss_one (ps_ret (pe_tup (pa_cons (pv 2) (pa_cons (pv 3) pa_nil))))))))), ?_⟩)
  · obtain ⟨l, ps, ws, rfl, _⟩ := h
    rfl
  · obtain ⟨l, ps, ws, rfl, hl, hw, hs, hz, k0, k1⟩ := h
    cases hws : ws with
    | nil =>
      have hps : ps = [] := by
        have := hw.1
        rw [hws] at this
        exact List.length_eq_zero_iff.mp this
      subst hps
      refine q_when (b := true) (et_not (et_tru (ev_var rfl) hl)) (fun _ H1 e1 => ?_) (fun ht => Bool.noConfusion ht)
      exact s_ret ev_c fun H2 e2 => k0 hws _ (e1.trans e2)
    | cons w0 wr =>
      have hne : ws ≠ [] := fun z => by rw [z] at hws; cases hws
      have hpe : (ps.map V.ref).isEmpty = false := by
        cases ps with
        | nil =>
          have := hw.1
          rw [hws] at this
          cases this
        | cons _ _ => rfl
      have kk := k1 hne
      refine q_when (b := false) (et_is (et_not (et_tru (ev_var rfl) hl)) (by rw [hpe]; rfl)) (fun ht => Bool.noConfusion ht) (fun _ H1 e1 => ?_)
      refine q_ev ?_
      refine elu_lcL (K := K) (xs := ps.map V.ref) (us := (ws.map shr).map prV) (ev_var rfl) (ex_l e1 hl) (by rw [List.length_map, hw.1]; omega) (by rw [List.length_map, List.length_map, List.length_map, hw.1]) (fun _ => rfl) (fun i x u H2 e2 hx hu => ?_) H1 (Ex.refl _) _ fun tl ts H2 ntl e2 htl hts => ?_
      · rw [List.getElem?_map] at hx
        obtain ⟨p, hp, rfl⟩ := Option.map_eq_some_iff.mp hx
        rw [List.getElem?_map, List.getElem?_map] at hu
        obtain ⟨s', hs', rfl⟩ := Option.map_eq_some_iff.mp hu
        obtain ⟨v, hv, rfl⟩ := Option.map_eq_some_iff.mp hs'
        have hW := (hw.2 i p v hp hv).ext (e1.trans e2)
        obtain ⟨l2, l3, lb, lp⟩ := hs v (List.mem_of_getElem? hv)
        obtain ⟨a1, a2⟩ := at_neg1 l2
        have bs := (getD_bd lb (v.length - 2)).add (getD_bd lb (v.length - 1))
        have ev1 : ∀ {σ' : L2.St} {H' : Hp}, σ'[5]? = some (some (.ref p)) → Ex H2 H' → Ev (tOp (rIxT K) (tVar 5) (tUn (rU fun i => .int (-i)) (tC (.int 1)))) σ' H' (.int (v.getD (v.length - 1) 0)) := fun h0 e => ev_op (ev_var h0) (ev_un ev_c ru_neg) (rv_ixT (hW.ext e) a1)
        have ev2 : ∀ {σ' : L2.St} {H' : Hp}, σ'[5]? = some (some (.ref p)) → Ex H2 H' → Ev (tOp (rIxT K) (tVar 5) (tUn (rU fun i => .int (-i)) (tC (.int 2)))) σ' H' (.int (v.getD (v.length - 2) 0)) := fun h0 e => ev_op (ev_var h0) (ev_un ev_c ru_neg) (rv_ixT (hW.ext e) a2)
        exact eu_call (ea_cons (ev1 rfl (Ex.refl _)) (ea_cons (ev_op (ev2 rfl (Ex.refl _)) (ev1 rfl (Ex.refl _)) rv_I0) ea_nil)) fun H3 e3 Q' q' E' => ⟨_, _, rfl, lp, (getD_bd lb (v.length - 1)).mono (by omega), bs.mono hn, q'⟩
      · have fp : ∀ s ∈ ws.map shr, Bd (n + 1) s.1 ∧ Bd (n + 1) s.2 := fun s hs' => by
          obtain ⟨v, hv, rfl⟩ := List.mem_map.mp hs'
          exact shr_bd (hs v hv)
        have hxn : ws.map shr ≠ [] := by simp [hne]
        have hx0 : (ws.map shr)[0]? = some ((ws.map shr).getD 0 (0, 1)) := by
          rw [hws]
          rfl
        have hxl : (ws.map shr).length ≤ 1000 := by simp; omega
        obtain ⟨t0, ht0⟩ : ∃ t0, ts[0]? = some t0 := by
          have h0 : 0 < ts.length := by
            rw [hts.1, hws]
            simp
          exact ⟨_, List.getElem?_eq_getElem h0⟩
        unfold leastS greatS at kk
        generalize (ws.map shr).getD 0 (0, 1) = x0 at hx0 kk
        have lemem : ∀ i, (((ws.map shr).take i).foldl leS x0) ∈ ws.map shr := fun i => by
          rcases foldl_mem (f := leS) (fun a b => by unfold leS; split <;> simp) (xs := (ws.map shr).take i) (d := x0) with h | h
          · rw [h]
            exact List.mem_of_getElem? hx0
          · exact List.mem_of_mem_take h
        have grmem : ∀ i, (((ws.map shr).take i).foldl grS x0) ∈ ws.map shr := fun i => by
          rcases foldl_mem (f := grS) (fun a b => by unfold grS; split <;> simp) (xs := (ws.map shr).take i) (d := x0) with h | h
          · rw [h]
            exact List.mem_of_getElem? hx0
          · exact List.mem_of_mem_take h
        generalize ws.map shr = xs at hx0 kk fp lemem grmem hts hxn hxl
        have el := hts.1
        rw [List.length_map] at el
        have h0 : H2 t0 = some (.tup (prV x0)) := hts.2 0 t0 _ ht0 (by rw [List.getElem?_map, hx0]; rfl)
        refine ev_op (z := .ref t0) (r := rIxL K) (ta := tVar 1) (tb := tC (.int 0)) (σ := [some (.ref l), some (.ref tl), none, none, none, none]) (H := H2) (x := .ref tl) (y := .int 0) (ev_var rfl) ev_c (rv_ixL (sq_of htl) (atI_nat (j := 0) (by rw [List.getElem?_map, ht0]; rfl))) H2 (Ex.refl _) _ fun H3 e3 => ?_
        dsimp only [gName, List.set]
        refine q_forLn (K := K) (a := tl) (xs := ts.map V.ref) (ev_var rfl) (sq_of (e3 _ _ htl)) (fun i σ' H' => Ex H3 H' ∧ ∃ (a b : Addr) (v : Option V), σ' = [some (.ref l), some (.ref tl), some (.ref a), some (.ref b), v, none] ∧ H' a = some (.tup (prV ((xs.take i).foldl leS x0))) ∧ H' b = some (.tup (prV ((xs.take i).foldl grS x0)))) ?_ ?_ ?_ ?_
        · intro H4 e4
          exact ⟨e4, t0, t0, none, rfl, e4 _ _ (e3 _ _ h0), e4 _ _ (e3 _ _ h0)⟩
        · rintro i σ' H' _ ⟨e, _⟩
          exact sq_of (e _ _ (e3 _ _ htl))
        · rintro i x σ' H' hx ⟨e, a, b, v, rfl, ha, hb⟩
          rw [List.getElem?_map] at hx
          obtain ⟨t, ht, rfl⟩ := Option.map_eq_some_iff.mp hx
          have hit : i < xs.length := by
            have := (List.getElem?_eq_some_iff.mp ht).1
            omega
          have hxi : xs[i]? = some xs[i] := List.getElem?_eq_getElem hit
          have htT : H2 t = some (.tup (prV xs[i])) := hts.2 i t _ ht (by rw [List.getElem?_map, hxi]; rfl)
          have bt := fp xs[i] (List.getElem_mem hit)
          have ba := fp _ (lemem i)
          have bb := fp _ (grmem i)
          have tk1 : (xs.take (i + 1)).foldl leS x0 = leS ((xs.take i).foldl leS x0) xs[i] := by
            rw [List.take_add_one, hxi, List.foldl_append]
            rfl
          have tk2 : (xs.take (i + 1)).foldl grS x0 = grS ((xs.take i).foldl grS x0) xs[i] := by
            rw [List.take_add_one, hxi, List.foldl_append]
            rfl
          rw [tk1, tk2]
          generalize (xs.take i).foldl leS x0 = A at ha ba ⊢
          generalize (xs.take i).foldl grS x0 = B at hb bb ⊢
          generalize xs[i] = S at htT bt ⊢
          have eo : Ex H2 H' := e3.trans e
          have plS : ∀ {H5 : Hp}, Ex H' H5 → Pl K (n + 1) H5 t S := fun e5 => ⟨st_of (e5 _ _ (eo _ _ htT)), bt⟩
          have evo : ∀ {j : Nat} {c : Addr} {Y : Pt} {σ' : L2.St} {H5 : Hp}, σ'[4]? = some (some (.ref t)) → σ'[j]? = some (some (.ref c)) → Ex H' H5 → H5 c = some (.tup (prV Y)) → (Bd (n + 1) Y.1 ∧ Bd (n + 1) Y.2) → Ev (tCall (spOrd K (n + 1)) [] E0 (tCons (tVar 4) (tCons (tVar j) tNil))) σ' H5 (.int (cmp3 (S.1 * Y.2) (Y.1 * S.2))) := fun h4 hj e5 hc bY => ev_call (ea_cons (ev_var h4) (ea_cons (ev_var hj) ea_nil)) fun H6 e6 Q' q' E' => ⟨t, _, S, _, rfl, (plS e5).ext e6, ⟨st_of (e6 _ _ hc), bY⟩, q'⟩
          refine q_cut (M := fun σ' H5 => Ex H' H5 ∧ ∃ a' : Addr, σ' = [some (.ref l), some (.ref tl), some (.ref a'), some (.ref b), some (.ref t), none] ∧ H5 a' = some (.tup (prV (leS A S)))) ?_ ?_
          · refine s_when (et_test (ev_op (evo (j := 2) rfl rfl (Ex.refl _) ha ba) ev_c rv_I0)) (fun ht H5 e5 => ?_) (fun ht H5 e5 => ?_)
            · have hc : cmp3 (S.1 * A.2) (A.1 * S.2) < 0 := of_decide_eq_true ht
              refine s_asg (ev_var rfl) fun H6 e6 => ⟨e5.trans e6, t, rfl, ?_⟩
              unfold leS
              rw [if_pos hc]
              exact (e5.trans e6) _ _ (eo _ _ htT)
            · have hc : ¬ cmp3 (S.1 * A.2) (A.1 * S.2) < 0 := of_decide_eq_false ht
              refine ⟨e5, a, rfl, ?_⟩
              unfold leS
              rw [if_neg hc]
              exact e5 _ _ ha
          · rintro σ' H5 ⟨e5, a', rfl, ha'⟩
            refine s_when (et_test (ev_op (evo (j := 3) rfl rfl e5 (e5 _ _ hb) bb) ev_c rv_I0)) (fun ht H6 e6 => ?_) (fun ht H6 e6 => ?_)
            · have hc : cmp3 (S.1 * B.2) (B.1 * S.2) > 0 := of_decide_eq_true ht
              refine s_asg (ev_var rfl) fun H7 e7 => ⟨(e.trans e5).trans (e6.trans e7), a', t, some (.ref t), rfl, (e6.trans e7) _ _ ha', ?_⟩
              unfold grS
              rw [if_pos hc]
              exact (e5.trans (e6.trans e7)) _ _ (eo _ _ htT)
            · have hc : ¬ cmp3 (S.1 * B.2) (B.1 * S.2) > 0 := of_decide_eq_false ht
              refine ⟨(e.trans e5).trans e6, a', b, some (.ref t), rfl, e6 _ _ ha', ?_⟩
              unfold grS
              rw [if_neg hc]
              exact (e5.trans e6) _ _ hb
        · rintro σ' H' ⟨e, a, b, v, rfl, ha, hb⟩
          rw [List.length_map, el, List.take_length] at ha hb
          refine s_retU (eu_tup (ea_cons (ev_var rfl) (ea_cons (ev_var rfl) ea_nil)) (by simp)) fun p H5 hp e5 h5 => kk p a b H5 (((e1.trans e2).trans e3).trans (e.trans e5)) h5 (st_of (e5 _ _ ha)) (st_of (e5 _ _ hb))
end
end Hs
namespace Hs
open PySem PySem.Spec PyProof.Rows L2 Evl
/-! ### the shares of a piece, of one place too -/
/-- what is told of the points left: nothing, 0 for a piece of one place, or the ends -/
def metV (x y : Pt) (ws : List (List Int)) : Option (Pt × Pt) := if ws = [] then none else if x = y then some ((0, 1), (0, 1)) else some (leastS (ws.map shr), greatS (ws.map shr))
def RetO (K : PySem.W.Frag) (o : Option (Pt × Pt)) (H : Hp) (Q : VK) : Prop := match o with
  | none => RetV .non H Q
  | some (x, y) => RetP K x y H Q
theorem RetP.go {K : PySem.W.Frag} {x y : Pt} {H H' : Hp} {Q : VK} (k : RetP K x y H Q) (e : Ex H H') : RetP K x y H' Q := fun p a b H2 e2 h1 h2 h3 => k p a b H2 (e.trans e2) h1 h2 h3
theorem RetO.go' {K : PySem.W.Frag} {o : Option (Pt × Pt)} {H H' : Hp} {Q : VK} (k : RetO K o H Q) (e : Ex H H') : RetO K o H' Q := by
  cases o with
  | none => exact fun H2 e2 => k H2 (e.trans e2)
  | some z => exact RetP.go (x := z.1) (y := z.2) k e
def spMet (K : PySem.W.Frag) (m N : Nat) : Sp := fun vs H Q _ => ∃ (p r a b : Addr) (x y : Pt) (c : Nat) (xs ys : List Int), vs = [.ref p, .ref r] ∧ Pc K c H p x y ∧ SqL K H r [.ref a, .ref b] ∧ Ws K H a xs ∧ Ws K H b ys ∧ xs.length = ys.length ∧ xs.length ≤ 6 ∧ BdL m xs ∧ BdL m ys ∧ RetO K (metV x y (cutAll unit2 (rows2 xs ys))) H Q
theorem dp_pt {K : PySem.W.Frag} {H : Hp} {p : Addr} {x : Pt} (h : SqT K H p (prV x)) : Dp K H (.ref p) (PySem.W.Datum.toD x) := .tup h (.cons (.int _) (.cons (.int _) .nil))
theorem ev_eqPt {K : PySem.W.Frag} {σ : L2.St} {H : Hp} {tx ty : TE} {p q : Addr} {x y : Pt} (hx : Ev tx σ H (.ref p)) (hy : Ev ty σ H (.ref q)) (px : SqT K H p (prV x)) (qy : SqT K H q (prV y)) : Ev (tOp (rEqD K) tx ty) σ H (.bl (decide (x = y))) := fun H1 e Q k =>
  hx H1 e _ fun H2 e2 => hy H2 (e.trans e2) _ fun H3 e3 => ⟨_, _, dp_pt (ex_t ((e.trans e2).trans e3) px), dp_pt (ex_t ((e.trans e2).trans e3) qy), rfl, rfl, by rw [PySem.W.Datum.eqv]; exact k H3 (e2.trans e3)⟩
theorem sh2 {n : Nat} {w : List Int} (h : Wt 2 w) (hb : BdL n w) : ShW n w := by
  obtain ⟨w0, w1, rfl, h0, h1, hk⟩ := wt2 h
  exact ⟨by simp, by simp, hb, hk⟩
theorem unit2_pts : Pts' 2 1 unit2 := by
  intro w hw
  have : w = [1, 0] ∨ w = [0, 1] := by simpa [unit2] using hw
  rcases this with rfl | rfl
  · refine ⟨⟨rfl, by decide, by decide⟩, fun x hx => ?_⟩
    have : x = 1 ∨ x = 0 := by simpa using hx
    rcases this with rfl | rfl <;> (unfold Bd; decide)
  · refine ⟨⟨rfl, by decide, by decide⟩, fun x hx => ?_⟩
    have : x = 0 ∨ x = 1 := by simpa using hx
    rcases this with rfl | rfl <;> (unfold Bd; decide)
section
theorem cross_bd {n : Nat} {a b c : Pt} (ha : Bd n a.1 ∧ Bd n a.2) (hb : Bd n b.1 ∧ Bd n b.2) (hc : Bd n c.1 ∧ Bd n c.2) : Bd (2 * n + 3) (cross a b c) := by
  have := ((hb.1.sub ha.1).mul (hc.2.sub ha.2)).sub ((hb.2.sub ha.2).mul (hc.1.sub ha.1))
  exact this.mono (by omega)
theorem hts_bd {n : Nat} {b : Blk} {x : Pt} (hb : BdB n b) (hx : Bd n x.1 ∧ Bd n x.2) : BdL (n + 1) (hts b x) := by
  intro z hz
  simp only [hts, List.mem_cons, List.not_mem_nil, or_false] at hz
  obtain ⟨h1, h2, h3, h4⟩ := hb
  rcases hz with rfl | rfl | rfl | rfl
  · exact hx.1.sub h1
  · exact h3.sub hx.1
  · exact hx.2.sub h2
  · exact h4.sub hx.2
theorem phts_bd {n : Nat} {a b x : Pt} (ha : Bd n a.1 ∧ Bd n a.2) (hb : Bd n b.1 ∧ Bd n b.2) (hx : Bd n x.1 ∧ Bd n x.2) : BdL (2 * n + 3) (phts a b x) := by
  intro z hz
  have hc := cross_bd ha hb hx
  rcases List.mem_cons.mp hz with rfl | hz
  · exact hc
  · rcases List.mem_cons.mp hz with rfl | hz
    · exact hc.neg
    · exact (hts_bd (box_bd ha hb) hx z hz).mono (by omega)
end
end Hs
namespace Hs
/-! ### the least and the greatest share: what they are -/
theorem low_gcd {a b : Int} (h : b ≠ 0) : Int.gcd (low a b).1 (low a b).2 = 1 := by
  have e1 := low_1 a b
  have e2 := low_2 a b
  have hp := gcd_pos (a := a) h
  have hg := sg_abs (a := a) (b := b)
  generalize sg a b = g at e1 e2 hg
  generalize low a b = s at e1 e2 ⊢
  subst e1 e2
  rw [Int.gcd_mul_left] at hg hp
  have h0 : 0 < g.natAbs := by
    rcases Nat.eq_zero_or_pos g.natAbs with z | z
    · rw [z, Nat.zero_mul] at hp
      omega
    · exact z
  exact Nat.eq_of_mul_eq_mul_left h0 (hg.symm.trans (Nat.mul_one _).symm)
theorem low_ratio {a b : Int} (h : 0 < b) : 0 < (low a b).2 ∧ ∃ g : Int, 0 < g ∧ a = g * (low a b).1 ∧ b = g * (low a b).2 := by
  have hp := gcd_pos (a := a) (b := b) (by omega)
  refine ⟨low_pos (by omega), sg a b, ?_, low_1 a b, low_2 a b⟩
  unfold sg
  rw [if_neg (by omega)]
  omega
theorem cmp3_neg {a b : Int} : cmp3 a b < 0 ↔ a < b := by
  unfold cmp3
  split
  · simp_all
  · split <;> omega
theorem cmp3_pos {a b : Int} : cmp3 a b > 0 ↔ b < a := by
  unfold cmp3
  split
  · omega
  · split <;> omega
theorem le_refl' (x : Pt) : x.1 * x.2 ≤ x.1 * x.2 := Int.le_refl _
theorem fold_le : ∀ {xs : List Pt} {d : Pt}, 0 < d.2 → (∀ x ∈ xs, 0 < x.2) → (xs.foldl leS d ∈ d :: xs) ∧ ∀ x ∈ d :: xs, (xs.foldl leS d).1 * x.2 ≤ x.1 * (xs.foldl leS d).2
  | [], d, _, _ => ⟨List.mem_cons_self .., fun x hx => by rw [List.mem_singleton.mp hx]; exact Int.le_refl _⟩
  | y :: ys, d, hd, hs => by
    have hy := hs y (List.mem_cons_self ..)
    have hs' := fun x hx => hs x (List.mem_cons_of_mem y hx)
    have hm : 0 < (leS d y).2 := by
      unfold leS
      split
      · exact hy
      · exact hd
    obtain ⟨h1, h2⟩ := fold_le (xs := ys) (d := leS d y) hm hs'
    rw [List.foldl_cons]
    generalize ys.foldl leS (leS d y) = r at h1 h2
    have rp : 0 < r.2 := by
      rcases List.mem_cons.mp h1 with rfl | h
      · exact hm
      · exact hs' r h
    have hr := h2 _ (List.mem_cons_self ..)
    have key : r.1 * d.2 ≤ d.1 * r.2 ∧ r.1 * y.2 ≤ y.1 * r.2 := by
      unfold leS at hr
      split at hr
      · rename_i hc
        have hc := cmp3_neg.mp hc
        exact ⟨ratio_trans hy rp hd hr (Int.le_of_lt hc), hr⟩
      · rename_i hc
        have hc : ¬ y.1 * d.2 < d.1 * y.2 := fun q => hc (cmp3_neg.mpr q)
        exact ⟨hr, ratio_trans hd rp hy hr (by omega)⟩
    refine ⟨?_, fun x hx => ?_⟩
    · rcases List.mem_cons.mp h1 with rfl | h
      · unfold leS
        split
        · exact List.mem_cons_of_mem _ (List.mem_cons_self ..)
        · exact List.mem_cons_self ..
      · exact List.mem_cons_of_mem _ (List.mem_cons_of_mem _ h)
    · rcases List.mem_cons.mp hx with rfl | hx
      · exact key.1
      · rcases List.mem_cons.mp hx with rfl | hx
        · exact key.2
        · exact h2 x (List.mem_cons_of_mem _ hx)
theorem fold_gr : ∀ {xs : List Pt} {d : Pt}, 0 < d.2 → (∀ x ∈ xs, 0 < x.2) → (xs.foldl grS d ∈ d :: xs) ∧ ∀ x ∈ d :: xs, x.1 * (xs.foldl grS d).2 ≤ (xs.foldl grS d).1 * x.2
  | [], d, _, _ => ⟨List.mem_cons_self .., fun x hx => by rw [List.mem_singleton.mp hx]; exact Int.le_refl _⟩
  | y :: ys, d, hd, hs => by
    have hy := hs y (List.mem_cons_self ..)
    have hs' := fun x hx => hs x (List.mem_cons_of_mem y hx)
    have hm : 0 < (grS d y).2 := by
      unfold grS
      split
      · exact hy
      · exact hd
    obtain ⟨h1, h2⟩ := fold_gr (xs := ys) (d := grS d y) hm hs'
    rw [List.foldl_cons]
    generalize ys.foldl grS (grS d y) = r at h1 h2
    have rp : 0 < r.2 := by
      rcases List.mem_cons.mp h1 with rfl | h
      · exact hm
      · exact hs' r h
    have hr := h2 _ (List.mem_cons_self ..)
    have key : d.1 * r.2 ≤ r.1 * d.2 ∧ y.1 * r.2 ≤ r.1 * y.2 := by
      unfold grS at hr
      split at hr
      · rename_i hc
        have hc := cmp3_pos.mp hc
        exact ⟨ratio_trans hy hd rp (Int.le_of_lt hc) hr, hr⟩
      · rename_i hc
        have hc : ¬ d.1 * y.2 < y.1 * d.2 := fun q => hc (cmp3_pos.mpr q)
        exact ⟨hr, ratio_trans hd hy rp (by omega) hr⟩
    refine ⟨?_, fun x hx => ?_⟩
    · rcases List.mem_cons.mp h1 with rfl | h
      · unfold grS
        split
        · exact List.mem_cons_of_mem _ (List.mem_cons_self ..)
        · exact List.mem_cons_self ..
      · exact List.mem_cons_of_mem _ (List.mem_cons_of_mem _ h)
    · rcases List.mem_cons.mp hx with rfl | hx
      · exact key.1
      · rcases List.mem_cons.mp hx with rfl | hx
        · exact key.2
        · exact h2 x (List.mem_cons_of_mem _ hx)
theorem least_ok {xs : List Pt} (hn : xs ≠ []) (hs : ∀ x ∈ xs, 0 < x.2) : leastS xs ∈ xs ∧ ∀ x ∈ xs, (leastS xs).1 * x.2 ≤ x.1 * (leastS xs).2 := by
  cases xs with
  | nil => exact absurd rfl hn
  | cons d ds =>
    obtain ⟨h1, h2⟩ := fold_le (xs := d :: ds) (d := d) (hs d (List.mem_cons_self ..)) hs
    refine ⟨?_, fun x hx => h2 x (List.mem_cons_of_mem _ hx)⟩
    rcases List.mem_cons.mp h1 with h | h
    · show List.foldl leS d (d :: ds) ∈ _
      rw [h]
      exact List.mem_cons_self ..
    · exact h
theorem great_ok {xs : List Pt} (hn : xs ≠ []) (hs : ∀ x ∈ xs, 0 < x.2) : greatS xs ∈ xs ∧ ∀ x ∈ xs, x.1 * (greatS xs).2 ≤ (greatS xs).1 * x.2 := by
  cases xs with
  | nil => exact absurd rfl hn
  | cons d ds =>
    obtain ⟨h1, h2⟩ := fold_gr (xs := d :: ds) (d := d) (hs d (List.mem_cons_self ..)) hs
    refine ⟨?_, fun x hx => h2 x (List.mem_cons_of_mem _ hx)⟩
    rcases List.mem_cons.mp h1 with h | h
    · show List.foldl grS d (d :: ds) ∈ _
      rw [h]
      exact List.mem_cons_self ..
    · exact h
/-- .. and where f is nowhere below 0 -/
theorem CutOk.dual0 {m : Nat} {init hs pts : List (List Int)} (C : CutOk m init hs pts) {f : List Int} (hf : f.length = m) (h : ∀ p ∈ pts, 0 ≤ dot p f) {u : List Int} (hu : InS m hs u) : 0 ≤ dot u f := by
  apply Decidable.byContradiction
  intro hn
  have ol : (ones m).length = f.length := by simp [ones, hf]
  have q := C.dual (comb (ones m) 1 f (dot u (ones m))) ((comb_len ol).trans (by simp [ones])) (fun p hp => ?_) u hu
  · rw [mix_dot ol] at q
    have := Int.mul_le_mul_of_nonneg_left (c := dot u (ones m)) (show dot u f ≤ -1 by omega) (by have := hu.1.pos; omega)
    omega
  · rw [mix_dot ol]
    have e1 := (C.mem p hp).1.pos
    have e2 := Int.mul_nonneg (show 0 ≤ dot u (ones m) by have := hu.1.pos; omega) (h p hp)
    omega
theorem shr2 (w0 w1 : Int) : shr [w0, w1] = low w1 (w0 + w1) := rfl
/-- a fraction from 0 to 1 in lowest terms -/
structure Fr1 (s : Pt) : Prop where
  pos : 0 < s.2
  nn : 0 ≤ s.1
  le : s.1 ≤ s.2
  gcd : Int.gcd s.1 s.2 = 1
theorem shr_fr {w : List Int} (h : Wt 2 w) : Fr1 (shr w) := by
  obtain ⟨w0, w1, rfl, h0, h1, hk⟩ := wt2 h
  rw [shr2]
  obtain ⟨g1, g, g0, e1, e2⟩ := low_ratio (a := w1) (b := w0 + w1) hk
  refine ⟨g1, ?_, ?_, low_gcd (by omega)⟩
  · refine Decidable.byContradiction fun hn => ?_
    have := Int.mul_neg_of_pos_of_neg g0 (show (low w1 (w0 + w1)).1 < 0 by omega)
    omega
  · exact Int.le_of_mul_le_mul_left (show g * (low w1 (w0 + w1)).1 ≤ g * (low w1 (w0 + w1)).2 by omega) g0
/-- the share of weights that are in is in -/
theorem shr_in {hs : List (List Int)} (hl : ∀ h ∈ hs, h.length = 2) {w : List Int} (h : InS 2 hs w) : InS 2 hs [(shr w).2 - (shr w).1, (shr w).1] := by
  have F := shr_fr h.1
  obtain ⟨w0, w1, rfl, h0, h1, hk⟩ := wt2 h.1
  rw [shr2] at F ⊢
  obtain ⟨g1, g, g0, e1, e2⟩ := low_ratio (a := w1) (b := w0 + w1) hk
  generalize low w1 (w0 + w1) = s at *
  have hp := F.pos
  have hn := F.nn
  have hle := F.le
  refine ⟨wt2_of (by omega) hn (by omega), fun k hh => ?_⟩
  obtain ⟨x, y, rfl⟩ : ∃ x y, k = [x, y] := match k, hl k hh with | [x, y], _ => ⟨x, y, rfl⟩
  have q := h.2 _ hh
  rw [dot2] at q ⊢
  have e : w0 * x + w1 * y = g * ((s.2 - s.1) * x + s.1 * y) := by
    have : w0 = g * s.2 - g * s.1 := by omega
    rw [this]
    conv => lhs; rw [e1]
    grind
  rw [e] at q
  refine Decidable.byContradiction fun hneg => ?_
  have := Int.mul_neg_of_pos_of_neg g0 (show (s.2 - s.1) * x + s.1 * y < 0 by omega)
  omega
/-- which shares are in: those between the least and the greatest -/
structure EndsOk (hs : List (List Int)) (lo hi : Pt) : Prop where
  lo1 : Fr1 lo
  hi1 : Fr1 hi
  le : lo.1 * hi.2 ≤ hi.1 * lo.2
  iff : ∀ x y : Int, 0 < y → 0 ≤ x → x ≤ y → (InS 2 hs [y - x, x] ↔ lo.1 * y ≤ x * lo.2 ∧ x * hi.2 ≤ hi.1 * y)
theorem ends_ok {hs pts : List (List Int)} (hl : ∀ h ∈ hs, h.length = 2) (C : CutOk 2 unit2 hs pts) (hn : pts ≠ []) : EndsOk hs (leastS (pts.map shr)) (greatS (pts.map shr)) := by
  have fr : ∀ x ∈ pts.map shr, Fr1 x := fun x hx => by
    obtain ⟨w, hw, rfl⟩ := List.mem_map.mp hx
    exact shr_fr (C.mem w hw).1
  have ne : pts.map shr ≠ [] := by simp [hn]
  obtain ⟨l1, l2⟩ := least_ok ne fun x hx => (fr x hx).pos
  obtain ⟨g1, g2⟩ := great_ok ne fun x hx => (fr x hx).pos
  have inS : ∀ x ∈ pts.map shr, InS 2 hs [x.2 - x.1, x.1] := fun x hx => by
    obtain ⟨w, hw, rfl⟩ := List.mem_map.mp hx
    exact shr_in hl (C.mem w hw)
  have lof := fr _ l1
  have hif := fr _ g1
  have loS := inS _ l1
  have hiS := inS _ g1
  have lohi := g2 _ l1
  have sh : ∀ w ∈ pts, ∃ w0 w1 g : Int, w = [w0, w1] ∧ 0 < g ∧ w1 = g * (shr w).1 ∧ w0 + w1 = g * (shr w).2 := fun w hw => by
    obtain ⟨w0, w1, rfl, h0, h1, hk⟩ := wt2 (C.mem w hw).1
    obtain ⟨_, g, g0, e1, e2⟩ := low_ratio (a := w1) (b := w0 + w1) hk
    exact ⟨w0, w1, g, rfl, g0, e1, e2⟩
  generalize leastS (pts.map shr) = lo at *
  generalize greatS (pts.map shr) = hi at *
  refine ⟨lof, hif, lohi, fun x y hy hx hxy => ⟨fun hS => ⟨?_, ?_⟩, fun ⟨b1, b2⟩ => ⟨wt2_of (by omega) hx (by omega), fun k hk => ?_⟩⟩⟩
  · -- f = [-lo.1, lo.2 - lo.1]
    have q := C.dual0 (f := [-lo.1, lo.2 - lo.1]) rfl (fun p hp => ?_) hS
    · rw [dot2] at q
      have e : (y - x) * -lo.1 + x * (lo.2 - lo.1) = x * lo.2 - lo.1 * y := by grind
      omega
    · obtain ⟨w0, w1, g, rfl, g0, e1, e2⟩ := sh p hp
      have := l2 _ (List.mem_map.mpr ⟨_, hp, rfl⟩)
      rw [dot2]
      have e : w0 * -lo.1 + w1 * (lo.2 - lo.1) = w1 * lo.2 - lo.1 * (w0 + w1) := by grind
      have e3 : w1 * lo.2 - lo.1 * (w0 + w1) = g * ((shr [w0, w1]).1 * lo.2 - lo.1 * (shr [w0, w1]).2) := by
        rw [e2]
        conv => lhs; rw [e1]
        grind
      have := Int.mul_nonneg (Int.le_of_lt g0) (show 0 ≤ (shr [w0, w1]).1 * lo.2 - lo.1 * (shr [w0, w1]).2 by omega)
      omega
  · have q := C.dual0 (f := [hi.1, hi.1 - hi.2]) rfl (fun p hp => ?_) hS
    · rw [dot2] at q
      have e : (y - x) * hi.1 + x * (hi.1 - hi.2) = hi.1 * y - x * hi.2 := by grind
      omega
    · obtain ⟨w0, w1, g, rfl, g0, e1, e2⟩ := sh p hp
      have := g2 _ (List.mem_map.mpr ⟨_, hp, rfl⟩)
      rw [dot2]
      have e : w0 * hi.1 + w1 * (hi.1 - hi.2) = hi.1 * (w0 + w1) - w1 * hi.2 := by grind
      have e3 : hi.1 * (w0 + w1) - w1 * hi.2 = g * (hi.1 * (shr [w0, w1]).2 - (shr [w0, w1]).1 * hi.2) := by
        rw [e2]
        conv => lhs; rw [e1]
        grind
      have := Int.mul_nonneg (Int.le_of_lt g0) (show 0 ≤ hi.1 * (shr [w0, w1]).2 - (shr [w0, w1]).1 * hi.2 by omega)
      omega
  · obtain ⟨u, v, rfl⟩ : ∃ u v, k = [u, v] := match k, hl k hk with | [u, v], _ => ⟨u, v, rfl⟩
    have q1 := loS.2 _ hk
    have q2 := hiS.2 _ hk
    rw [dot2] at q1 q2 ⊢
    have lp := lof.pos
    have hp := hif.pos
    refine Decidable.byContradiction fun hneg => ?_
    rcases Int.le_total 0 (v - u) with d | d
    · have e1 : lo.2 * ((y - x) * u + x * v) = y * ((lo.2 - lo.1) * u + lo.1 * v) + (x * lo.2 - lo.1 * y) * (v - u) := by grind
      have k1 := Int.mul_nonneg (Int.le_of_lt hy) q1
      have k2 := Int.mul_nonneg (show 0 ≤ x * lo.2 - lo.1 * y by omega) d
      have k3 := Int.mul_neg_of_pos_of_neg lp (show (y - x) * u + x * v < 0 by omega)
      omega
    · have e1 : hi.2 * ((y - x) * u + x * v) = y * ((hi.2 - hi.1) * u + hi.1 * v) + (x * hi.2 - hi.1 * y) * (v - u) := by grind
      have k1 := Int.mul_nonneg (Int.le_of_lt hy) q2
      have k2 := Int.mul_nonneg_of_nonpos_of_nonpos (show x * hi.2 - hi.1 * y ≤ 0 by omega) d
      have k3 := Int.mul_neg_of_pos_of_neg hp (show (y - x) * u + x * v < 0 by omega)
      omega
theorem cop_dvd {k m n : Int} (h : k ∣ m * n) (hc : Int.gcd k m = 1) : k ∣ n := by
  have h1 : k.natAbs ∣ m.natAbs * n.natAbs := by
    rw [← Int.natAbs_mul]
    exact Int.natAbs_dvd_natAbs.mpr h
  exact Int.natAbs_dvd_natAbs.mp (Nat.Coprime.dvd_of_dvd_mul_left hc h1)
/-- such ends are told by the shares alone -/
theorem fr_eq {s t : Pt} (hs : Fr1 s) (ht : Fr1 t) (h : s.1 * t.2 = t.1 * s.2) : s = t := by
  obtain ⟨s1, s2⟩ := s
  obtain ⟨t1, t2⟩ := t
  obtain ⟨p1, n1, _, g1⟩ := hs
  obtain ⟨p2, n2, _, g2⟩ := ht
  simp only at *
  have d1 : s2 ∣ t2 := by
    have : s2 ∣ s1 * t2 := ⟨t1, by rw [h]; exact Int.mul_comm ..⟩
    exact cop_dvd this (by rw [Int.gcd_comm]; exact g1)
  have d2 : t2 ∣ s2 := by
    have : t2 ∣ t1 * s2 := ⟨s1, by rw [← h]; exact Int.mul_comm ..⟩
    exact cop_dvd this (by rw [Int.gcd_comm]; exact g2)
  have e : s2 = t2 := Int.dvd_antisymm (by omega) (by omega) d1 d2
  subst e
  have : s1 = t1 := Int.eq_of_mul_eq_mul_right (by omega) h
  rw [this]
theorem ends_eq {hs hs' : List (List Int)} {lo hi lo' hi' : Pt} (E : EndsOk hs lo hi) (E' : EndsOk hs' lo' hi') (h : ∀ x y : Int, 0 < y → 0 ≤ x → x ≤ y → (InS 2 hs [y - x, x] ↔ InS 2 hs' [y - x, x])) : lo = lo' ∧ hi = hi' := by
  have a1 := (E.iff lo.1 lo.2 E.lo1.pos E.lo1.nn E.lo1.le).mpr ⟨Int.le_refl _, E.le⟩
  have a2 := (E.iff hi.1 hi.2 E.hi1.pos E.hi1.nn E.hi1.le).mpr ⟨E.le, Int.le_refl _⟩
  have b1 := (E'.iff lo'.1 lo'.2 E'.lo1.pos E'.lo1.nn E'.lo1.le).mpr ⟨Int.le_refl _, E'.le⟩
  have b2 := (E'.iff hi'.1 hi'.2 E'.hi1.pos E'.hi1.nn E'.hi1.le).mpr ⟨E'.le, Int.le_refl _⟩
  have c1 := (E'.iff lo.1 lo.2 E.lo1.pos E.lo1.nn E.lo1.le).mp ((h _ _ E.lo1.pos E.lo1.nn E.lo1.le).mp a1)
  have c2 := (E'.iff hi.1 hi.2 E.hi1.pos E.hi1.nn E.hi1.le).mp ((h _ _ E.hi1.pos E.hi1.nn E.hi1.le).mp a2)
  have d1 := (E.iff lo'.1 lo'.2 E'.lo1.pos E'.lo1.nn E'.lo1.le).mp ((h _ _ E'.lo1.pos E'.lo1.nn E'.lo1.le).mpr b1)
  have d2 := (E.iff hi'.1 hi'.2 E'.hi1.pos E'.hi1.nn E'.hi1.le).mp ((h _ _ E'.hi1.pos E'.hi1.nn E'.hi1.le).mpr b2)
  exact ⟨fr_eq E.lo1 E'.lo1 (Int.le_antisymm d1.1 c1.1), fr_eq E.hi1 E'.hi1 (Int.le_antisymm c2.2 d2.2)⟩
end Hs
namespace Hs
open PySem PySem.Spec PyProof.Rows L2 Evl
section
variable {P : Program} {w : World} {K : PySem.W.Frag} {mg : Str → Option Value} {base : Heap} {f : Addr} {fd : FuncData} {n : Nat}
def spCutP (K : PySem.W.Frag) (n : Nat) : Sp := fun vs H Q _ => ∃ (p q r s : Addr) (a b c d : Pt), vs = [.ref p, .ref q, .ref r, .ref s] ∧ Pl K n H p a ∧ Pl K n H q b ∧ Pl K n H r c ∧ Pl K n H s d ∧ RetV (.bl (decide (CutP a b c d))) H Q
abbrev sLcut : Stmt := top 32
theorem scLcut : FnScope ["_law_a", "_law_b", "_law_c", "_law_d", "_law_one_here", "_law_two", "_law_three", "_law_four"] ["_law_a", "_law_b", "_law_c", "_law_d"] (defScope sLcut) := ⟨rfl, rfl, rfl, by decide +kernel, rfl, by decide +kernel, by decide +kernel⟩
theorem ok_lcut (F : FnP K "_law_cut" sLcut f fd) (O__law_cross : Own P w K mg base 1 "_law_cross" ["_law_a", "_law_b", "_law_c"] (spCross K n)) (O__law_touch : Own P w K mg base 2 "_law_touch" ["_law_a", "_law_b", "_law_c"] (spTouch K n)) (hn : n ≤ 10000) : FnOk P w K mg base CX0 3 f fd ["_law_a", "_law_b", "_law_c", "_law_d"] (spCutP K n) := by
  have nd := scLcut.nd
  refine F.ok scLcut (fun vs H Q E h => ?_) (fun cdv A outer s H vs Q E hr h => ⟨_, PSs.nox (pss_cons (ps_par (i := 4) (j := 5) (by rfl) nd rfl rfl (by decide) rfl rfl (pa_cons (Hs.pe_own O__law_cross hr (by first | decide | omega) (by rfl) (pa_cons (pv 0) (pa_cons (pv 1) (pa_cons (pv 2) pa_nil)))) (pa_cons (Hs.pe_own O__law_cross hr (by first | decide | omega) (by rfl) (pa_cons (pv 0) (pa_cons (pv 1) (pa_cons (pv 3) pa_nil)))) pa_nil)) (by rfl))
  (pss_cons (ps_par (i := 6) (j := 7) (by rfl) nd rfl rfl (by decide) rfl rfl (pa_cons (Hs.pe_own O__law_cross hr (by first | decide | omega) (by rfl) (pa_cons (pv 2) (pa_cons (pv 3) (pa_cons (pv 0) pa_nil)))) (pa_cons (Hs.pe_own O__law_cross hr (by first | decide | omega) (by rfl) (pa_cons (pv 2) (pa_cons (pv 3) (pa_cons (pv 1) pa_nil)))) pa_nil)) (by rfl))
  (pss_cons (ps_if (PW.pt (pw_and (pt_cmpR op_lt (pe_op op_mulW (pv 4) (pv 5)) pe_int (nomark _)) (pw_and1 (pt_cmpR op_lt (pe_op op_mulW (pv 6) (pv 7)) pe_int (nomark _))))) (pss_one (ps_ret pe_bl)) pss_nil)
  (pss_cons (ps_if (PW.pt (pw_or (pt_val (Hs.pe_own O__law_touch hr (by first | decide | omega) (by rfl) (pa_cons (pv 0) (pa_cons (pv 1) (pa_cons (pv 2) pa_nil))))) (pw_or1 (pt_val (Hs.pe_own O__law_touch hr (by first | decide | omega) (by rfl) (pa_cons (pv 0) (pa_cons (pv 1) (pa_cons (pv 3) pa_nil)))))))) (pss_one (ps_ret pe_bl)) pss_nil)
  (pss_one (ps_ret (pe_or (Hs.pe_own O__law_touch hr (by first | decide | omega) (by rfl) (pa_cons (pv 2) (pa_cons (pv 3) (pa_cons (pv 0) pa_nil)))) (pe_one (Hs.pe_own O__law_touch hr (by first | decide | omega) (by rfl) (pa_cons (pv 2) (pa_cons (pv 3) (pa_cons (pv 1) pa_nil)))))))))))), ?_⟩)
  · obtain ⟨p, q, r, s, a, b, c, d, rfl, _⟩ := h
    rfl
  · obtain ⟨p, q, r, s, a, b, c, d, rfl, ha, hb, hc, hd, k⟩ := h
    refine q_par (ea_cons (ev_cross rfl rfl rfl ha hb hc) (ea_cons (ev_cross rfl rfl rfl ha hb hd) ea_nil)) fun H1 e1 => ?_
    refine q_par (ea_cons (ev_cross rfl rfl rfl (hc.ext e1) (hd.ext e1) (ha.ext e1)) (ea_cons (ev_cross rfl rfl rfl (hc.ext e1) (hd.ext e1) (hb.ext e1)) ea_nil)) fun H2 e2 => ?_
    have e12 := e1.trans e2
    have m1 : CMulW (cross a b c) (cross a b d) := (cross_bd ha.2 hb.2 hc.2).cmul (cross_bd ha.2 hb.2 hd.2) (by omega)
    have m2 : CMulW (cross c d a) (cross c d b) := (cross_bd hc.2 hd.2 ha.2).cmul (cross_bd hc.2 hd.2 hb.2) (by omega)
    refine q_when (et_and (et_test (ev_op (ev_op (ev_var rfl) (ev_var rfl) (rv_I m1)) ev_c rv_I0)) fun _ => et_test (ev_op (ev_op (ev_var rfl) (ev_var rfl) (rv_I m2)) ev_c rv_I0)) (fun ht H3 e3 => ?_) (fun ht H3 e3 => ?_)
    · rw [Bool.and_eq_true] at ht
      have z : CutP a b c d := .inl ⟨of_decide_eq_true ht.1, of_decide_eq_true ht.2⟩
      rw [decide_eq_true z] at k
      exact s_ret ev_c fun H4 e4 => k _ ((e12.trans e3).trans e4)
    · have h1 : ¬ (cross a b c * cross a b d < 0 ∧ cross c d a * cross c d b < 0) := fun z => by
        rw [decide_eq_true z.1, decide_eq_true z.2] at ht
        exact Bool.noConfusion ht
      have e13 := e12.trans e3
      refine q_when (et_or (et_B (ev_touch rfl rfl rfl (ha.ext e13) (hb.ext e13) (hc.ext e13))) fun _ => et_B (ev_touch rfl rfl rfl (ha.ext e13) (hb.ext e13) (hd.ext e13))) (fun ht H4 e4 => ?_) (fun ht H4 e4 => ?_)
      · rw [Bool.or_eq_true, decide_eq_true_eq, decide_eq_true_eq] at ht
        have z : CutP a b c d := .inr (ht.elim .inl fun z => .inr (.inl z))
        rw [decide_eq_true z] at k
        exact s_ret ev_c fun H5 e5 => k _ ((e13.trans e4).trans e5)
      · rw [Bool.or_eq_false_iff, decide_eq_false_iff_not, decide_eq_false_iff_not] at ht
        have e14 := e13.trans e4
        refine s_ret (ev_is (ev_orV (ev_touch rfl rfl rfl (hc.ext e14) (hd.ext e14) (ha.ext e14)) fun _ => ev_touch rfl rfl rfl (hc.ext e14) (hd.ext e14) (hb.ext e14)) ?_) fun H5 e5 => k _ (e14.trans e5)
        congr 1
        rw [Bool.eq_iff_iff]
        simp only [Bool.or_eq_true, decide_eq_true_eq]
        unfold CutP
        simp only [h1, ht.1, ht.2, false_or]
end
end Hs
namespace Hs
open PySem PySem.Spec PyProof.Rows L2 Evl
/-! ### one of a list, a block that is drawn -/
def spOne (K : PySem.W.Frag) : Sp := fun vs H Q _ => ∃ (b l a : Addr) (ns : List Int) (n : Nat) (xs : List V), vs = [.ref b, .ref a] ∧ BagAt H b l ns n ∧ n < 900000 ∧ H a = some (.lst xs) ∧ a ≠ b ∧ 0 < xs.length ∧ xs.length ≤ 1000 ∧
  ∀ (v : V) (H' : Hp), v ∈ xs → BagAt H' b l ns (n + 1) → But H H' b → Q v H'
section
variable {P : Program} {w : World} {K : PySem.W.Frag} {mg : Str → Option Value} {base : Heap} {f : Addr} {fd : FuncData}
abbrev sOne : Stmt := top 24
theorem scOne : FnScope ["_law_bag_here", "_law_some"] ["_law_bag_here", "_law_some"] (defScope sOne) := ⟨rfl, rfl, rfl, by decide +kernel, rfl, by decide +kernel, by decide +kernel⟩
theorem ok_one (F : FnP K "_law_one" sOne f fd) (O__law_pull : Own P w K mg base 1 "_law_pull" ["_law_bag_here", "_law_many"] spPull) (g_len : mg "len" = none) : FnOk P w K mg base CX0 2 f fd ["_law_bag_here", "_law_some"] (spOne K) := by
  have nd := scOne.nd
  refine F.ok scOne (fun vs H Q E h => ?_) (fun cdv A outer s H vs Q E hr h => ⟨_, PSs.nox (pss_one (ps_ret (pe_ix (r := rIxL K) ix_list (pv 1) (Hs.pe_own O__law_pull hr (by first | decide | omega) (by rfl) (pa_cons (pv 0) (pa_cons (pe_callB (r := Evl.rLenS K) call_len_seq (by rfl) g_len PySem.boot_len (pa_cons (pv 1) pa_nil)) pa_nil))) (fun _ _ => rfl)))), ?_⟩)
  · obtain ⟨b, l, a, ns, n, xs, rfl, _⟩ := h
    rfl
  · obtain ⟨b, l, a, ns, n, xs, rfl, B, hn, ha, hne, h0, h1, k⟩ := h
    refine ⟨_, rfl, _, rfl, _, rfl, a, xs, rfl, .inl (sq_of ha), b, l, ns, n, _, rfl, B, by omega, by omega, by omega, fun v H1 v0 v1 B1 b1 => ?_⟩
    have hi : v.toNat < xs.length := by omega
    have hat : atI xs v = some xs[v.toNat] := by
      have e : ((v.toNat : Nat) : Int) = v := by omega
      have q := atI_nat (xs := xs) (j := v.toNat) (List.getElem?_eq_getElem hi)
      rw [e] at q
      exact q
    exact ⟨a, xs, v, _, rfl, rfl, sq_of (b1 _ _ ha hne), hat, k _ H1 (List.getElem_mem hi) B1 b1⟩
end
end Hs
namespace Hs
open PySem PySem.Spec PyProof.Rows L2 Evl
def spWider (K : PySem.W.Frag) (n m : Nat) : Sp := fun vs H Q _ => ∃ p x k, vs = [.ref p, .int k] ∧ Pl K n H p x ∧ Bd m k ∧ RetU (prV (x.1 * k, x.2 * k)) H Q
section
variable {P : Program} {w : World} {K : PySem.W.Frag} {mg : Str → Option Value} {base : Heap} {f : Addr} {fd : FuncData} {n m : Nat}
abbrev sWider : Stmt := top 33
theorem scWider : FnScope ["_law_place", "_law_many"] ["_law_place", "_law_many"] (defScope sWider) := ⟨rfl, rfl, rfl, by decide +kernel, rfl, by decide +kernel, by decide +kernel⟩
theorem ok_wider (F : FnP K "_law_wider" sWider f fd) (hn : n + m ≤ 10000) : FnOk P w K mg base CX0 1 f fd ["_law_place", "_law_many"] (spWider K n m) := by
  have nd := scWider.nd
  refine F.ok scWider (fun vs H Q E h => ?_) (fun cdv A outer s H vs Q E hr h => ⟨_, PSs.nox (pss_one (ps_ret (pe_tup (pa_cons (pe_op op_mulW (pe_ix (r := rIxT K) ix_tup (pv 0) pe_int (fun _ _ => rfl)) (pv 1)) (pa_cons (pe_op op_mulW (pe_ix (r := rIxT K) ix_tup (pv 0) pe_int (fun _ _ => rfl)) (pv 1)) pa_nil))))), ?_⟩)
  · obtain ⟨p, x, k, rfl, _⟩ := h
    rfl
  · obtain ⟨p, x, j, rfl, hx, hj, k⟩ := h
    exact s_retU (eu_tup (ea_cons (ev_op (ev_x1 rfl hx) (ev_var rfl) (rv_I (hx.2.1.cmul hj (by omega)))) (ea_cons (ev_op (ev_x2 rfl hx) (ev_var rfl) (rv_I (hx.2.2.cmul hj (by omega)))) ea_nil)) (by simp)) fun p H3 hp e3 h3 => k p H3 hp e3 h3
end
theorem eu_wider {K : PySem.W.Frag} {σ : L2.St} {H : Hp} {n m : Nat} {ta tb : TE} {p : Addr} {x : Pt} {k : Int} {E : XK} (ha : Ev ta σ H (.ref p)) (hb : Ev tb σ H (.int k)) (hx : Pl K n H p x) (hk : Bd m k) : EvU (tCall (spWider K n m) [] E (tCons ta (tCons tb tNil))) σ H (prV (x.1 * k, x.2 * k)) :=
  eu_call (ea_cons ha (ea_cons hb ea_nil)) fun H1 e1 Q q E => ⟨p, x, k, rfl, hx.ext e1, hk, q⟩
theorem Pl.wide {K : PySem.W.Frag} {H : Hp} {n m : Nat} {p : Addr} {x : Pt} {k : Int} (h : H p = some (.tup (prV (x.1 * k, x.2 * k)))) (hx : Bd n x.1 ∧ Bd n x.2) (hk : Bd m k) : Pl K (n + m) H p (x.1 * k, x.2 * k) := ⟨st_of h, hx.1.mul hk, hx.2.mul hk⟩
end Hs
namespace Hs
open PySem PySem.Spec PyProof.Rows L2 Evl
/-! ### the laws' own fractions, shares -/
def spLow : Sp := fun vs H Q _ => ∃ a b : Int, vs = [.int a, .int b] ∧ b ≠ 0 ∧ Bd 13000 a ∧ Bd 13000 b ∧ RetU (prV (low a b)) H Q
theorem Pl.mono {K : PySem.W.Frag} {n m : Nat} {H : Hp} {p : Addr} {x : Pt} (h : Pl K n H p x) (l : n ≤ m) : Pl K m H p x := ⟨h.1, h.2.1.mono l, h.2.2.mono l⟩
section
variable {P : Program} {w : World} {K : PySem.W.Frag} {mg : Str → Option Value} {base : Heap} {f : Addr} {fd : FuncData} {n : Nat}
abbrev sGcd : Stmt := top 27
theorem scGcd : FnScope ["_law_one_here", "_law_other"] ["_law_one_here", "_law_other"] (defScope sGcd) := ⟨rfl, rfl, rfl, by decide +kernel, rfl, by decide +kernel, by decide +kernel⟩
theorem ok_gcd (F : FnP K "_law_gcd" sGcd f fd) (g_abs : mg "abs" = none) : FnOk P w K mg base CX0 1 f fd ["_law_one_here", "_law_other"] spGcd := by
  have nd := scGcd.nd
  refine F.ok scGcd (fun vs H Q E h => ?_) (fun cdv A outer s H vs Q E hr h => ⟨_, PSs.nox (pss_cons (ps_par (i := 0) (j := 1) (by rfl) nd rfl rfl (by decide) rfl rfl (pa_cons (pe_callB call_abs (by rfl) g_abs (by decide +kernel) (pa_cons (pv 0) pa_nil)) (pa_cons (pe_callB call_abs (by rfl) g_abs (by decide +kernel) (pa_cons (pv 1) pa_nil)) pa_nil)) (by rfl))
  (pss_cons (ps_while PassesOwn.never (pt_cmpR op_gt (pv 1) pe_int (nomark _)) (pss_one (ps_par (i := 0) (j := 1) (by rfl) nd rfl rfl (by decide) rfl rfl (pa_cons (pv 1) (pa_cons (pe_op op_modN (pv 0) (pv 1)) pa_nil)) (by rfl))))
  (pss_one (ps_ret (pv 0))))), ?_⟩)
  · obtain ⟨a, b, rfl, _⟩ := h
    rfl
  · obtain ⟨a, b, rfl, k⟩ := h
    refine q_par (ea_cons (ev_cb (ea_cons (ev_var rfl) ea_nil) rc_abs) (ea_cons (ev_cb (ea_cons (ev_var rfl) ea_nil) rc_abs) ea_nil)) fun H2 e2 => ?_
    refine q_while (fun m σ' H' => Ex H H' ∧ ∃ p : Nat, σ' = [some (.int (p : Int)), some (.int (m : Int))] ∧ Nat.gcd p m = Int.gcd a b) b.natAbs ⟨e2, a.natAbs, rfl, rfl⟩ ?_
    rintro m σ' H' ⟨e, p, rfl, hg⟩
    refine ⟨_, et_test (ev_op (ev_var rfl) ev_c rv_I0), fun ht H3 e3 => ?_, fun ht H3 e3 => ?_⟩
    · have hm : (0 : Int) < m := of_decide_eq_true ht
      refine ⟨fun σ2 H2 => ∃ m', m' < m ∧ Ex H H2 ∧ ∃ p : Nat, σ2 = [some (.int (p : Int)), some (.int (m' : Int))] ∧ Nat.gcd p m' = Int.gcd a b, fun σ2 H2 h => h, ?_⟩
      refine s_par (ea_cons (ev_var rfl) (ea_cons (ev_op (ev_var rfl) (ev_var rfl) (rv_I (show (m : Int) ≠ 0 by omega))) ea_nil)) fun H4 e4 => ?_
      refine ⟨p % m, Nat.mod_lt _ (by omega), (e.trans e3).trans e4, m, ?_, ?_⟩
      · rw [nat_mod]
        rfl
      · rw [← hg, Nat.gcd_comm m, ← Nat.gcd_rec, Nat.gcd_comm]
    · have hm' : ¬ (0 : Int) < m := of_decide_eq_false ht
      have hm : m = 0 := by omega
      subst hm
      rw [Nat.gcd_zero_right] at hg
      refine s_ret (ev_var rfl) fun H4 e4 => ?_
      rw [hg]
      exact k H4 ((e.trans e3).trans e4)
abbrev sLow : Stmt := top 28
theorem scLow : FnScope ["_law_top", "_law_bottom", "_law_upto"] ["_law_top", "_law_bottom"] (defScope sLow) := ⟨rfl, rfl, rfl, by decide +kernel, rfl, by decide +kernel, by decide +kernel⟩
theorem ok_low (F : FnP K "_law_low" sLow f fd) (O__law_gcd : Own P w K mg base 1 "_law_gcd" ["_law_one_here", "_law_other"] spGcd) : FnOk P w K mg base CX0 2 f fd ["_law_top", "_law_bottom"] spLow := by
  have nd := scLow.nd
  refine F.ok scLow (fun vs H Q E h => ?_) (fun cdv A outer s H vs Q E hr h => ⟨_, PSs.nox (pss_cons (ps_set (i := 2) nd rfl (.inl rfl) (Hs.pe_own O__law_gcd hr (by first | decide | omega) (by rfl) (pa_cons (pv 0) (pa_cons (pv 1) pa_nil))))
  (Evl.pss_cut (ps_if (pt_cmpR op_lt (pv 1) pe_int (nomark _)) (pss_one (ps_set (i := 2) nd rfl (.inl rfl) (pe_op op_sub pe_int (pv 2)))) pss_nil)
  (pss_one (ps_ret (pe_tup (pa_cons (pe_op Hs.op_fdivG (pv 0) (pv 2)) (pa_cons (pe_op Hs.op_fdivG (pv 1) (pv 2)) pa_nil))))))), ?_⟩)
  · obtain ⟨a, b, rfl, _⟩ := h
    rfl
  · obtain ⟨a, b, rfl, hb, ha9, hb9, k⟩ := h
    refine q_asg (ev_call (ea_cons (ev_var rfl) (ea_cons (ev_var rfl) ea_nil)) fun H1 e1 Q' q E' => ⟨a, b, rfl, q⟩) fun H1 e1 => ?_
    refine q_cut (M := fun σ' H' => Ex H H' ∧ σ' = [some (.int a), some (.int b), some (.int (sg a b))]) ?_ ?_
    · refine s_when (et_test (ev_op (ev_var rfl) ev_c rv_I0)) (fun ht H2 e2 => ?_) (fun ht H2 e2 => ?_)
      · refine s_asg (ev_op ev_c (ev_var rfl) rv_I0) fun H3 e3 => ⟨(e1.trans e2).trans e3, ?_⟩
        have e : (0 : Int) - (Int.gcd a b : Int) = sg a b := by
          unfold sg
          rw [if_pos (of_decide_eq_true ht)]
          omega
        rw [← e]
        rfl
      · refine ⟨e1.trans e2, ?_⟩
        have e : (Int.gcd a b : Int) = sg a b := (if_neg (of_decide_eq_false ht)).symm
        rw [← e]
        rfl
    · rintro σ' H2 ⟨e2, rfl⟩
      have hs := sg_ne (a := a) hb
      have hl := sg_lt (a := a) hb hb9
      exact s_retU (eu_tup (ea_cons (ev_op (ev_var rfl) (ev_var rfl) (rv_I (divX hs ha9 (by decide) (by decide)))) (ea_cons (ev_op (ev_var rfl) (ev_var rfl) (rv_I (divX hs hb9 (by decide) (by decide)))) ea_nil)) (by simp)) fun p H3 hp e3 h3 => k p H3 (fresh_back e2 hp) (e2.trans e3) h3
abbrev sBefore : Stmt := top 29
theorem scBefore : FnScope ["_law_one_here", "_law_other", "_law_gap"] ["_law_one_here", "_law_other"] (defScope sBefore) := ⟨rfl, rfl, rfl, by decide +kernel, rfl, by decide +kernel, by decide +kernel⟩
theorem rc_intB {H : Hp} {b : Bool} : RC (fun xs H Q => (∃ i : Int, xs = [.int i] ∧ Q (.int i) H) ∨ ∃ k, xs = [.bl k] ∧ Q (.int (if k then 1 else 0)) H) [.bl b] H (.int (if b then 1 else 0)) := fun H1 _ Q q => .inr ⟨b, rfl, q H1 (Ex.refl H1)⟩
theorem ok_before (F : FnP K "_law_before" sBefore f fd) (g_int : mg "int" = none) (hn : n ≤ 40000) : FnOk P w K mg base CX0 1 f fd ["_law_one_here", "_law_other"] (spOrd K n) := by
  have nd := scBefore.nd
  refine F.ok scBefore (fun vs H Q E h => ?_) (fun cdv A outer s H vs Q E hr h => ⟨_, PSs.nox (pss_cons (ps_set (i := 2) nd rfl (.inl rfl) (pe_op op_sub (pe_op op_mulW (pe_ix (r := rIxT K) ix_tup (pv 0) pe_int (fun _ _ => rfl)) (pe_ix (r := rIxT K) ix_tup (pv 1) pe_int (fun _ _ => rfl))) (pe_op op_mulW (pe_ix (r := rIxT K) ix_tup (pv 1) pe_int (fun _ _ => rfl)) (pe_ix (r := rIxT K) ix_tup (pv 0) pe_int (fun _ _ => rfl)))))
  (pss_one (ps_ret (pe_ifExp (pt_cmpR op_lt (pv 2) pe_int (nomark _)) (pe_un un_neg pe_int) (pe_callTy call_int1 (by rfl) g_int (by decide +kernel) (pa_cons (pe_cmpR op_gt (pv 2) pe_int (nomark _)) pa_nil)))))), ?_⟩)
  · obtain ⟨p, q, x, y, rfl, _⟩ := h
    rfl
  · obtain ⟨p, q, x, y, rfl, hx, hy, k⟩ := h
    refine q_asg (ev_op (ev_op (ev_x1 rfl hx) (ev_x2 rfl hy) (rv_I (hx.2.1.cmul hy.2.2 (by omega)))) (ev_op (ev_x1 rfl hy) (ev_x2 rfl hx) (rv_I (hy.2.1.cmul hx.2.2 (by omega)))) rv_I0) fun H1 e1 => ?_
    refine s_ret (v := .int (cmp3 (x.1 * y.2) (y.1 * x.2))) (ev_if (et_test (ev_op (ev_var rfl) ev_c rv_I0)) (fun ht => ?_) (fun ht => ?_)) fun H2 e2 => k _ (e1.trans e2)
    · have h0 : x.1 * y.2 - y.1 * x.2 < 0 := of_decide_eq_true ht
      have e : cmp3 (x.1 * y.2) (y.1 * x.2) = -1 := if_pos (by omega)
      rw [e]
      exact ev_un ev_c ru_neg
    · have h0 : ¬ x.1 * y.2 - y.1 * x.2 < 0 := of_decide_eq_false ht
      refine ev_is (ev_cb (ea_cons (ev_op (ev_var rfl) ev_c rv_I0) ea_nil) rc_intB) ?_
      by_cases h1 : y.1 * x.2 < x.1 * y.2
      · have e : cmp3 (x.1 * y.2) (y.1 * x.2) = 1 := (if_neg (by omega)).trans (if_pos h1)
        rw [e, decide_eq_true (by omega)] <;> rfl
      · have e : cmp3 (x.1 * y.2) (y.1 * x.2) = 0 := (if_neg (by omega)).trans (if_neg h1)
        rw [e, decide_eq_false (by omega)] <;> rfl
/-- a number that is drawn: within 10 ^ 29 -/
def spInt (K : PySem.W.Frag) : Sp := fun vs H Q _ => ∃ i : Int, vs = [.int i] ∧ RetV (.bl true) H Q
abbrev sInt : Stmt := top 25
theorem scInt : FnScope ["_law_got"] ["_law_got"] (defScope sInt) := ⟨rfl, rfl, rfl, by decide +kernel, rfl, by decide +kernel, by decide +kernel⟩
theorem ok_int (F : FnP K "_law_int" sInt f fd) (g_isinstance : mg "isinstance" = none) (g_bool : mg "bool" = none) (g_int : mg "int" = none) : FnOk P w K mg base CX0 1 f fd ["_law_got"] (spInt K) := by
  have nd := scInt.nd
  refine F.ok scInt (fun vs H Q E h => ?_) (fun cdv A outer s H vs Q E hr h => ⟨_, PSs.nox (pss_one (ps_ret (pe_and (pe_callB (r := rIsi K) call_isi (by rfl) g_isinstance (by decide +kernel) (pa_cons (pv 0) (pa_cons (pe_bltn (v := .ty "int") (by rfl) g_int (by decide +kernel) rfl) pa_nil))) (pe_one (pe_not (pe_callB (r := rIsi K) call_isi (by rfl) g_isinstance (by decide +kernel) (pa_cons (pv 0) (pa_cons (pe_bltn (v := .ty "bool") (by rfl) g_bool (by decide +kernel) rfl) pa_nil)))))))), ?_⟩)
  · obtain ⟨i, rfl, _⟩ := h
    rfl
  · obtain ⟨i, rfl, k⟩ := h
    exact s_ret (ev_is (ev_andV (ev_isi (ev_var rfl) ty_int kb_int_int) (fun _ => ev_notV (ev_isi (ev_var rfl) ty_int kb_int_bool))) (by simp)) fun H2 e2 => k _ e2
def spIsSh (K : PySem.W.Frag) (n : Nat) : Sp := fun vs H Q _ => ∃ (p : Addr) (s : Pt), vs = [.ref p] ∧ Pl K n H p s ∧ Fr1 s ∧ RetV (.bl true) H Q
def spHalf (K : PySem.W.Frag) (n : Nat) : Sp := fun vs H Q _ => ∃ (p q : Addr) (x y : Pt), vs = [.ref p, .ref q] ∧ Pl K n H p x ∧ Pl K n H q y ∧ x.2 ≠ 0 ∧ y.2 ≠ 0 ∧ RetU (prV (low (x.1 * y.2 + y.1 * x.2) (2 * x.2 * y.2))) H Q
abbrev sHalf : Stmt := top 39
theorem scHalf : FnScope ["_law_one_here", "_law_other"] ["_law_one_here", "_law_other"] (defScope sHalf) := ⟨rfl, rfl, rfl, by decide +kernel, rfl, by decide +kernel, by decide +kernel⟩
theorem ok_half (F : FnP K "_law_half" sHalf f fd) (O__law_low : Own P w K mg base 2 "_law_low" ["_law_top", "_law_bottom"] spLow) (hn : n ≤ 6000) : FnOk P w K mg base CX0 3 f fd ["_law_one_here", "_law_other"] (spHalf K n) := by
  have nd := scHalf.nd
  refine F.ok scHalf (fun vs H Q E h => ?_) (fun cdv A outer s H vs Q E hr h => ⟨_, PSs.nox (pss_one (ps_ret (Hs.pe_own O__law_low hr (by first | decide | omega) (by rfl) (pa_cons (pe_op op_add (pe_op op_mulW (pe_ix (r := rIxT K) ix_tup (pv 0) pe_int (fun _ _ => rfl)) (pe_ix (r := rIxT K) ix_tup (pv 1) pe_int (fun _ _ => rfl))) (pe_op op_mulW (pe_ix (r := rIxT K) ix_tup (pv 1) pe_int (fun _ _ => rfl)) (pe_ix (r := rIxT K) ix_tup (pv 0) pe_int (fun _ _ => rfl)))) (pa_cons (pe_op op_mulW (pe_op op_mulW pe_int (pe_ix (r := rIxT K) ix_tup (pv 0) pe_int (fun _ _ => rfl))) (pe_ix (r := rIxT K) ix_tup (pv 1) pe_int (fun _ _ => rfl))) pa_nil))))), ?_⟩)
  · obtain ⟨p, q, x, y, rfl, _⟩ := h
    rfl
  · obtain ⟨p, q, x, y, rfl, hx, hy, hx0, hy0, k⟩ := h
    have b2 : Bd 2 2 := by
      unfold Bd
      decide
    have m1 := hx.2.1.mul hy.2.2
    have m2 := hy.2.1.mul hx.2.2
    have m3 := b2.mul hx.2.2
    have m4 := m3.mul hy.2.2
    exact s_retU (eu_call (ea_cons (ev_op (ev_op (ev_x1 rfl hx) (ev_x2 rfl hy) (rv_I (hx.2.1.cmul hy.2.2 (by omega)))) (ev_op (ev_x1 rfl hy) (ev_x2 rfl hx) (rv_I (hy.2.1.cmul hx.2.2 (by omega)))) rv_I0) (ea_cons (ev_op (ev_op ev_c (ev_x2 rfl hx) (rv_I (b2.cmul hx.2.2 (by omega)))) (ev_x2 rfl hy) (rv_I (m3.cmul hy.2.2 (by omega)))) ea_nil)) fun H1 e1 Q' q' E' => ⟨_, _, rfl, Int.mul_ne_zero (Int.mul_ne_zero (by decide) hx0) hy0, (m1.add m2).mono (by omega), m4.mono (by omega), q'⟩) fun p H3 hp e3 h3 => k p H3 hp e3 h3
def atS (a b s : Pt) : Pt := (a.1 * s.2 + (b.1 - a.1) * s.1, a.2 * s.2 + (b.2 - a.2) * s.1)
def spAt (K : PySem.W.Frag) (n m : Nat) : Sp := fun vs H Q _ => ∃ (p q : Addr) (a b s : Pt), vs = [.ref p, .ref q] ∧ Pc K n H p a b ∧ Pl K m H q s ∧ RetU (prV (atS a b s)) H Q
abbrev sAt : Stmt := top 34
theorem scAt : FnScope ["_law_line_here", "_law_share", "_law_a", "_law_b", "_law_c", "_law_d"] ["_law_line_here", "_law_share"] (defScope sAt) := ⟨rfl, rfl, rfl, by decide +kernel, rfl, by decide +kernel, by decide +kernel⟩
theorem ok_at {m : Nat} (F : FnP K "_law_at" sAt f fd) (hn : n + m ≤ 10000) : FnOk P w K mg base CX0 1 f fd ["_law_line_here", "_law_share"] (spAt K n m) := by
  have nd := scAt.nd
  refine F.ok scAt (fun vs H Q E h => ?_) (fun cdv A outer s H vs Q E hr h => ⟨_, PSs.nox (pss_cons (ps_asg (pv 0) (pg_tup rfl (pgs_cons (pg_tup rfl (pgs_cons (pg_name (i := 2) nd rfl (.inl rfl)) (pgs_cons (pg_name (i := 3) nd rfl (.inl rfl)) pgs_nil))) (pgs_cons (pg_tup rfl (pgs_cons (pg_name (i := 4) nd rfl (.inl rfl)) (pgs_cons (pg_name (i := 5) nd rfl (.inl rfl)) pgs_nil))) pgs_nil))))
  (pss_one (ps_ret (pe_tup (pa_cons (pe_op op_add (pe_op op_mulW (pv 2) (pe_ix (r := rIxT K) ix_tup (pv 1) pe_int (fun _ _ => rfl))) (pe_op op_mulW (pe_op op_sub (pv 4) (pv 2)) (pe_ix (r := rIxT K) ix_tup (pv 1) pe_int (fun _ _ => rfl)))) (pa_cons (pe_op op_add (pe_op op_mulW (pv 3) (pe_ix (r := rIxT K) ix_tup (pv 1) pe_int (fun _ _ => rfl))) (pe_op op_mulW (pe_op op_sub (pv 5) (pv 3)) (pe_ix (r := rIxT K) ix_tup (pv 1) pe_int (fun _ _ => rfl)))) pa_nil)))))), ?_⟩)
  · obtain ⟨p, q, a, b, s, rfl, _⟩ := h
    rfl
  · obtain ⟨p, q, x, y, t, rfl, ⟨a, b, hp, hx, hy⟩, ht, k⟩ := h
    refine ⟨_, rfl, p, _, rfl, hp, rfl, _, _, rfl, ⟨a, _, rfl, hx.1, rfl, _, _, rfl, _, _, rfl, rfl, _, _, rfl, b, _, rfl, hy.1, rfl, _, _, rfl, _, _, rfl, rfl, rfl, ?_⟩⟩
    exact s_retU (xs := prV (atS x y t)) (eu_tup (ea_cons (ev_op (ev_op (ev_var rfl) (ev_x2 rfl ht) (rv_I (hx.2.1.cmul ht.2.2 (by omega)))) (ev_op (ev_op (ev_var rfl) (ev_var rfl) rv_I0) (ev_x1 rfl ht) (rv_I ((hy.2.1.sub hx.2.1).cmul ht.2.1 (by omega)))) rv_I0) (ea_cons (ev_op (ev_op (ev_var rfl) (ev_x2 rfl ht) (rv_I (hx.2.2.cmul ht.2.2 (by omega)))) (ev_op (ev_op (ev_var rfl) (ev_var rfl) rv_I0) (ev_x1 rfl ht) (rv_I ((hy.2.2.sub hx.2.2).cmul ht.2.1 (by omega)))) rv_I0) ea_nil)) (by show 2 ≤ 100000; decide)) fun p H3 hp e3 h3 => k p H3 hp e3 h3
abbrev sIsSh : Stmt := top 38
theorem scIsSh : FnScope ["_law_one_here"] ["_law_one_here"] (defScope sIsSh) := ⟨rfl, rfl, rfl, by decide +kernel, rfl, by decide +kernel, by decide +kernel⟩
theorem kb_tuple_tuple' : kitB "tuple" "tuple" = some true := by decide +kernel
theorem ok_isSh (F : FnP K "_law_is_share" sIsSh f fd) (O__law_int : Own P w K mg base 1 "_law_int" ["_law_got"] (spInt K)) (O__law_gcd : Own P w K mg base 1 "_law_gcd" ["_law_one_here", "_law_other"] spGcd) (g_isinstance : mg "isinstance" = none) (g_tuple : mg "tuple" = none) (g_len : mg "len" = none) : FnOk P w K mg base CX0 2 f fd ["_law_one_here"] (spIsSh K n) := by
  have nd := scIsSh.nd
  refine F.ok scIsSh (fun vs H Q E h => ?_) (fun cdv A outer s H vs Q E hr h => ⟨_, PSs.nox (pss_cons (ps_if (PW.pt (pw_or (pt_not (pt_val (pe_callB (r := rIsi K) call_isi (by rfl) g_isinstance (by decide +kernel) (pa_cons (pv 0) (pa_cons (pe_bltn (v := .ty "tuple") (by rfl) g_tuple (by decide +kernel) rfl) pa_nil))))) (pw_or (pt_cmpR op_ne (pe_callB (r := Evl.rLenS K) call_len_seq (by rfl) g_len PySem.boot_len (pa_cons (pv 0) pa_nil)) pe_int (nomark _)) (pw_or (pt_not (pt_val (Hs.pe_own O__law_int hr (by first | decide | omega) (by rfl) (pa_cons (pe_ix (r := rIxT K) ix_tup (pv 0) pe_int (fun _ _ => rfl)) pa_nil)))) (pw_or1 (pt_not (pt_val (Hs.pe_own O__law_int hr (by first | decide | omega) (by rfl) (pa_cons (pe_ix (r := rIxT K) ix_tup (pv 0) pe_int (fun _ _ => rfl)) pa_nil))))))))) (pss_one (ps_ret pe_bl)) pss_nil)
  (pss_one (ps_ret (pe_and (pe_chain op_le op_le pe_int (pe_ix (r := rIxT K) ix_tup (pv 0) pe_int (fun _ _ => rfl)) (pe_ix (r := rIxT K) ix_tup (pv 0) pe_int (fun _ _ => rfl))) (pe_and (pe_cmpR op_gt (pe_ix (r := rIxT K) ix_tup (pv 0) pe_int (fun _ _ => rfl)) pe_int (nomark _)) (pe_one (pe_cmpR op_eq (Hs.pe_own O__law_gcd hr (by first | decide | omega) (by rfl) (pa_cons (pe_ix (r := rIxT K) ix_tup (pv 0) pe_int (fun _ _ => rfl)) (pa_cons (pe_ix (r := rIxT K) ix_tup (pv 0) pe_int (fun _ _ => rfl)) pa_nil))) pe_int (nomark _)))))))), ?_⟩)
  · obtain ⟨p, x, rfl, _⟩ := h
    rfl
  · obtain ⟨p, x, rfl, hx, F1, k⟩ := h
    refine q_when (b := false) (et_is (et_or (et_not (et_B (ev_isi (ev_var rfl) (ty_t hx.1) kb_tuple_tuple))) fun _ => et_or (et_test (ev_op (ev_lenQ (xs := prV x) (ev_var rfl) (.inr hx.1)) ev_c (rv_ne rfl))) fun _ => et_or (et_not (et_B (ev_call (ea_cons (ev_x1 rfl hx) ea_nil) fun H1 e1 Q' q' E' => (⟨_, rfl, q'⟩ : spInt K _ _ _ _)))) fun _ => et_not (et_B (ev_call (ea_cons (ev_x2 rfl hx) ea_nil) fun H1 e1 Q' q' E' => (⟨_, rfl, q'⟩ : spInt K _ _ _ _)))) rfl) (fun z => Bool.noConfusion z) (fun _ H1 e1 => ?_)
    refine s_ret (ev_is (ev_andV (ev_chain (i := 0) ev_c (ev_x1 rfl (hx.ext e1)) (ev_x2 rfl (hx.ext e1))) (fun _ => ev_andV (ev_op (ev_x2 rfl (hx.ext e1)) ev_c rv_I0) (fun _ => ev_op (ev_call (ea_cons (ev_x1 rfl (hx.ext e1)) (ea_cons (ev_x2 rfl (hx.ext e1)) ea_nil)) fun H2 e2 Q' q' E' => (⟨_, _, rfl, q'⟩ : spGcd _ _ _ _)) ev_c (rv_eq rfl)))) ?_) fun H2 e2 => k _ (e1.trans e2)
    have h1 := F1.pos
    have h2 := F1.nn
    have h3 := F1.le
    have h4 := F1.gcd
    rw [h4, decide_eq_true h2, decide_eq_true h3, decide_eq_true (show x.2 > 0 from h1)]
    rfl
theorem atS_bd {m : Nat} {a b s : Pt} (ha : Bd n a.1 ∧ Bd n a.2) (hb : Bd n b.1 ∧ Bd n b.2) (hs : Bd m s.1 ∧ Bd m s.2) : Bd (n + m + 2) (atS a b s).1 ∧ Bd (n + m + 2) (atS a b s).2 := by
  constructor
  · exact (((ha.1.mul hs.2).mono (show n + m ≤ n + 1 + m by omega)).add ((hb.1.sub ha.1).mul hs.1)).mono (by omega)
  · exact (((ha.2.mul hs.2).mono (show n + m ≤ n + 1 + m by omega)).add ((hb.2.sub ha.2).mul hs.1)).mono (by omega)
end
end Hs
namespace Hs
/-! ### shares at the ends, between them and beyond -/
section
variable {hs : List (List Int)} {lo hi : Pt}
theorem good_low (E : EndsOk hs lo hi) {x y : Int} (hy : 0 < y) (hx : 0 ≤ x) (hxy : x ≤ y) : InS 2 hs [(low x y).2 - (low x y).1, (low x y).1] ↔ lo.1 * y ≤ x * lo.2 ∧ x * hi.2 ≤ hi.1 * y := by
  obtain ⟨p, g, g0, e1, e2⟩ := low_ratio (a := x) (b := y) hy
  generalize low x y = s at *
  have h1 : 0 ≤ s.1 := by
    refine Decidable.byContradiction fun hn => ?_
    have := Int.mul_neg_of_pos_of_neg g0 (show s.1 < 0 by omega)
    omega
  have h2 : s.1 ≤ s.2 := Int.le_of_mul_le_mul_left (show g * s.1 ≤ g * s.2 by omega) g0
  rw [E.iff s.1 s.2 p h1 h2]
  have a1 : lo.1 * y = g * (lo.1 * s.2) := by rw [e2]; grind
  have a2 : x * lo.2 = g * (s.1 * lo.2) := by rw [e1]; grind
  have a3 : x * hi.2 = g * (s.1 * hi.2) := by rw [e1]; grind
  have a4 : hi.1 * y = g * (hi.1 * s.2) := by rw [e2]; grind
  rw [a1, a2, a3, a4]
  exact and_congr ⟨fun h => Int.mul_le_mul_of_nonneg_left h (Int.le_of_lt g0), fun h => Int.le_of_mul_le_mul_left h g0⟩ ⟨fun h => Int.mul_le_mul_of_nonneg_left h (Int.le_of_lt g0), fun h => Int.le_of_mul_le_mul_left h g0⟩
abbrev Good (hs : List (List Int)) (s : Pt) : Prop := InS 2 hs [s.2 - s.1, s.1]
abbrev halfS (x y : Pt) : Pt := low (x.1 * y.2 + y.1 * x.2) (2 * x.2 * y.2)
theorem good_lo (E : EndsOk hs lo hi) : Good hs lo := (E.iff lo.1 lo.2 E.lo1.pos E.lo1.nn E.lo1.le).mpr ⟨Int.le_refl _, E.le⟩
theorem good_hi (E : EndsOk hs lo hi) : Good hs hi := (E.iff hi.1 hi.2 E.hi1.pos E.hi1.nn E.hi1.le).mpr ⟨E.le, Int.le_refl _⟩
theorem half_in {x y : Pt} (hx : Fr1 x) (hy : Fr1 y) : 0 < 2 * x.2 * y.2 ∧ 0 ≤ x.1 * y.2 + y.1 * x.2 ∧ x.1 * y.2 + y.1 * x.2 ≤ 2 * x.2 * y.2 := by
  have p1 := Int.mul_pos hx.pos hy.pos
  have p2 := Int.mul_nonneg hx.nn (Int.le_of_lt hy.pos)
  have p3 := Int.mul_nonneg hy.nn (Int.le_of_lt hx.pos)
  have p4 := Int.mul_le_mul_of_nonneg_right hx.le (Int.le_of_lt hy.pos)
  have p5 := Int.mul_le_mul_of_nonneg_right hy.le (Int.le_of_lt hx.pos)
  have e : 2 * x.2 * y.2 = 2 * (x.2 * y.2) := Int.mul_assoc ..
  have e2 : y.2 * x.2 = x.2 * y.2 := Int.mul_comm ..
  rw [e2] at p5
  rw [e]
  exact ⟨by omega, by omega, by omega⟩
theorem good_half (E : EndsOk hs lo hi) : Good hs (halfS lo hi) := by
  obtain ⟨h1, h2, h3⟩ := half_in E.lo1 E.hi1
  refine (good_low E h1 h2 h3).mpr ⟨?_, ?_⟩
  · have := Int.mul_le_mul_of_nonneg_right E.le (Int.le_of_lt E.lo1.pos)
    have e1 : lo.1 * (2 * lo.2 * hi.2) = lo.1 * hi.2 * lo.2 + lo.1 * hi.2 * lo.2 := by grind
    have e2 : (lo.1 * hi.2 + hi.1 * lo.2) * lo.2 = lo.1 * hi.2 * lo.2 + hi.1 * lo.2 * lo.2 := by grind
    omega
  · have := Int.mul_le_mul_of_nonneg_right E.le (Int.le_of_lt E.hi1.pos)
    have e1 : hi.1 * (2 * lo.2 * hi.2) = hi.1 * lo.2 * hi.2 + hi.1 * lo.2 * hi.2 := by grind
    have e2 : (lo.1 * hi.2 + hi.1 * lo.2) * hi.2 = lo.1 * hi.2 * hi.2 + hi.1 * lo.2 * hi.2 := by grind
    omega
theorem bad_0 (E : EndsOk hs lo hi) (h : 0 < lo.1) : ¬ Good hs (0, 1) := fun z => by
  have := ((E.iff 0 1 (by decide) (by decide) (by decide)).mp z).1
  omega
theorem fr0 : Fr1 (0, 1) := ⟨by decide, by decide, by decide, rfl⟩
theorem fr1 : Fr1 (1, 1) := ⟨by decide, by decide, by decide, rfl⟩
theorem bad_half0 (E : EndsOk hs lo hi) (h : 0 < lo.1) : ¬ Good hs (halfS (0, 1) lo) := fun z => by
  obtain ⟨h1, h2, h3⟩ := half_in fr0 E.lo1
  have q := ((good_low E h1 h2 h3).mp z).1
  have := Int.mul_pos h E.lo1.pos
  have e1 : lo.1 * (2 * 1 * lo.2) = lo.1 * lo.2 + lo.1 * lo.2 := by grind
  have e2 : (0 * lo.2 + lo.1 * 1) * lo.2 = lo.1 * lo.2 := by grind
  dsimp only at q
  omega
theorem bad_just0 (E : EndsOk hs lo hi) (h : 0 < lo.1) {N : Int} (hN : 0 < N) : ¬ Good hs (low (lo.1 * N - 1) (lo.2 * N)) := fun z => by
  have p := E.lo1.pos
  have q1 := Int.mul_pos h hN
  have q2 := Int.mul_le_mul_of_nonneg_right E.lo1.le (Int.le_of_lt hN)
  have q := ((good_low E (show 0 < lo.2 * N by omega) (show 0 ≤ lo.1 * N - 1 by omega) (by omega)).mp z).1
  have e1 : (lo.1 * N - 1) * lo.2 = lo.1 * (lo.2 * N) - lo.2 := by grind
  omega
theorem bad_1 (E : EndsOk hs lo hi) (h : hi.1 < hi.2) : ¬ Good hs (1, 1) := fun z => by
  have := ((E.iff 1 1 (by decide) (by decide) (by decide)).mp z).2
  omega
theorem bad_half1 (E : EndsOk hs lo hi) (h : hi.1 < hi.2) : ¬ Good hs (halfS (1, 1) hi) := fun z => by
  obtain ⟨h1, h2, h3⟩ := half_in fr1 E.hi1
  have q := ((good_low E h1 h2 h3).mp z).2
  have := Int.mul_lt_mul_of_pos_right h E.hi1.pos
  have e1 : hi.1 * (2 * 1 * hi.2) = hi.1 * hi.2 + hi.1 * hi.2 := by grind
  have e2 : (1 * hi.2 + hi.1 * 1) * hi.2 = hi.2 * hi.2 + hi.1 * hi.2 := by grind
  dsimp only at q
  omega
theorem bad_just1 (E : EndsOk hs lo hi) (h : hi.1 < hi.2) {N : Int} (hN : 0 < N) : ¬ Good hs (low (hi.1 * N + 1) (hi.2 * N)) := fun z => by
  have p := E.hi1.pos
  have q1 := Int.mul_nonneg E.hi1.nn (Int.le_of_lt hN)
  have q2 := Int.mul_le_mul_of_nonneg_right (show hi.1 + 1 ≤ hi.2 by omega) (Int.le_of_lt hN)
  have e0 : (hi.1 + 1) * N = hi.1 * N + N := by grind
  have q := ((good_low E (show 0 < hi.2 * N by omega) (show 0 ≤ hi.1 * N + 1 by omega) (by omega)).mp z).2
  have e1 : (hi.1 * N + 1) * hi.2 = hi.1 * (hi.2 * N) + hi.2 := by grind
  omega
end
end Hs
namespace Hs
open PySem PySem.Spec PyProof.Rows L2 LamX NdefX
/-! ### functions by a lambda as values: kept anywhere, called frames deeper while their maker's frame rests -/
/-- a lambda's function: its cells cl, its code object c -/
structure LF where
  qual : Str
  params : Arguments
  body : Expr
  scope : Scope
  cl : List (Str × Addr)
  c : Addr
def LF.nf (F : LF) : NF := ⟨"<lambda>", F.qual, F.params, [], F.scope, F.cl, F.c⟩
/-- the object at f is the function F -/
def LamO (f : Addr) (F : LF) : HO := .ext fun h => ∃ pm ctv : Value, h.get? f = some (PySem.W.kla_obj "<lambda>" F.qual F.params F.body F.scope F.cl pm F.c ctv)
theorem lamO_ne {f : Addr} {F : LF} (ps : Array Value) : LamO f F ≠ .tbl ps := fun z => by
  unfold LamO at z
  cases z
theorem lamO_at {P : Program} {w : World} {H : Hp} {h : Heap} {f : Addr} {F : LF} (hok : HOk P w H h) (e : H f = some (LamO f F)) : ∃ pm ctv : Value, h.get? f = some (PySem.W.kla_obj "<lambda>" F.qual F.params F.body F.scope F.cl pm F.c ctv) := by
  obtain ⟨z, _, _⟩ := hok f _ e
  exact z
section
variable {X : Cx} {pins : List (Addr × Obj)} {σ : L2.St} {H : Hp} {s : Shared}
theorem inv_lam {F : LF} {t' : Nat} {pm ctv : Value} (I : Inv X pins σ H s) :
    Inv X pins σ (upd H s.heap.objs.size (LamO s.heap.objs.size F)) { s with heap := s.heap.push (PySem.W.kla_obj "<lambda>" F.qual F.params F.body F.scope F.cl pm F.c ctv), toks := t' } := by
  have e : (s.heap.push (PySem.W.kla_obj "<lambda>" F.qual F.params F.body F.scope F.cl pm F.c ctv)).get? s.heap.objs.size = some (PySem.W.kla_obj "<lambda>" F.qual F.params F.body F.scope F.cl pm F.c ctv) := Heap.get?_push_size _ rfl
  exact I.laid (a := s.heap.objs.size) (fun b u z => Heap.get?_push_of_some _ z) (Nat.le_refl _) ⟨⟨pm, ctv, e⟩, ⟨_, e⟩, fun h1 h2 ⟨p, t, z⟩ st => ⟨p, t, st _ z⟩⟩
/-- lambda ..: a function of its own, known from now on -/
theorem lam_new {T : List (Addr × Str)} {c P : Addr} {params : Arguments} {body : Expr} {scope : Scope} {pos : Pos} {E : Value → Shared → Prop} {Q : Value → Shared → Prop} (I : Inv X pins σ H s) (TB : TabB X.base X.mg c P) (hcode : X.env.code = .ref c)
    (hm : (P, X.env.qual ++ "<lambda>") ∈ T) (hu : ∀ p ∈ T, p.1 = P → p.2 = X.env.qual ++ "<lambda>") (hT : Tabs T H) (hdef : defaultsOf params X.env = ([], [])) (hfree : ∀ y ∈ scope.names, y.2 = .free → ∃ c, X.env.cells.lookup y.1 = some c)
    (h : ∀ (f c' : Addr) (H1 : Hp) (s' : Shared), Inv X pins σ H1 s' → ExtN H H1 → (∀ b, H1 b = Option.none → H b = Option.none) → Tabs T H1 → H f = none → H1 f = some (LamO f ⟨X.env.qual ++ "<lambda>", params, body, scope, cloFrom X.env.cells scope.names [], c'⟩) → H1 c' = some (CodeO c' (X.env.qual ++ "<lambda>")) → Q (.ref f) s') :
    wpAny (model X.prog X.w) X.A (eval (.Lambda params body scope pos) X.env) Q E s := by
  refine PySem.W.kla_eval hdef ?_
  obtain ⟨ps, hP, ht, ha⟩ := hT _ hm
  have keep : ∀ {G : Hp} {b : Addr} {o : HO} {n : Addr} {u : HO}, G n = none → G b = some o → upd G n u b = some o := fun {G b o n u} z e => (upd_ne (ne_of_none e z)).trans e
  have hB := TB.bm.keeps I.bk
  have hPo : s.heap.get? P = some { cls := .none, data := .fields ps } := I.hok P _ hP
  have hG := I.mod.glob.keeps I.bk
  have hC := TB.code.keeps I.bk
  cases hc : codeAmong pos ps.toList with
  | some cv =>
    obtain ⟨c', rfl, hco⟩ := ha pos cv hc
    refine PySem.W.kla_makeFunctionHit (mg := X.mg) (c := c) (P := P) (ps := ps) (closure_ok hfree) I.ok.glob hG hcode hC hPo ht hc hB fun ctv h' tk hx hsz => ?_
    have J : Inv X pins σ H { s with heap := h', toks := tk } := I.kept hx
    have n0 : H h'.objs.size = none := J.hok.fresh (Nat.le_refl _)
    exact h _ c' _ _ (inv_lam (F := ⟨X.env.qual ++ "<lambda>", params, body, scope, cloFrom X.env.cells scope.names [], c'⟩) J) (fun b o e _ => keep n0 e) (fun b e => upd_none e) (hT.ext fun b o e => keep n0 e) n0 upd_same (keep n0 hco)
  | none =>
    refine PySem.W.kla_makeFunction (mg := X.mg) (c := c) (P := P) (ps := ps) (closure_ok hfree) I.ok.glob hG hcode hC hPo ht hc TB.gP hB fun c' ctv h' tk hx hge hlt hrec htb => ?_
    obtain ⟨_, oc, vs, t, e2, hoc, hd, hv⟩ := hrec
    cases e2
    have nC : H c' = none := I.hok.fresh hge
    have J := inv_table (t' := tk) (more := #[rawInt pos.line, rawInt pos.col, .ref c']) I hP (fun b o hb e => hx b o hb e) htb hge ⟨oc, vs, t, hoc, hd, hv⟩
    have n0 := J.hok.fresh (Nat.le_refl _)
    have go : ∀ b o, H b = some o → b ≠ P → upd (upd H P (.tbl (ps ++ #[rawInt pos.line, rawInt pos.col, .ref c']))) c' (CodeO c' (X.env.qual ++ "<lambda>")) b = some o := fun b o e nb => by
      rw [upd_ne (ne_of_none e nC), upd_ne nb]
      exact e
    have nP : ∀ b o, H b = some o → (∀ qs, o ≠ .tbl qs) → b ≠ P := fun b o e n z => by
      rw [z, hP] at e
      exact n ps (Option.some.inj e).symm
    have T1 : Tabs T (upd (upd H P (.tbl (ps ++ #[rawInt pos.line, rawInt pos.col, .ref c']))) c' (CodeO c' (X.env.qual ++ "<lambda>"))) := fun p hp => by
      have old : ∀ (ps' : Array Value), (∀ (p' : Pos) (cv : Value), codeAmong p' ps'.toList = some cv → ∃ c, cv = .ref c ∧ H c = some (CodeO c p.2)) → ∀ (p' : Pos) (cv : Value), codeAmong p' ps'.toList = some cv → ∃ d, cv = .ref d ∧ upd (upd H P (.tbl (ps ++ #[rawInt pos.line, rawInt pos.col, .ref c']))) c' (CodeO c' (X.env.qual ++ "<lambda>")) d = some (CodeO d p.2) := fun ps' z p' cv hcv => by
        obtain ⟨d, e1, e2⟩ := z p' cv hcv
        exact ⟨d, e1, go d _ e2 (nP d _ e2 codeO_ne)⟩
      by_cases hb : p.1 = P
      · have eq := hu p hp hb
        have eL : (ps ++ #[rawInt pos.line, rawInt pos.col, .ref c']).toList = ps.toList ++ [rawInt pos.line, rawInt pos.col, .ref c'] := by simp
        refine ⟨_, by rw [hb, upd_ne (ne_of_none hP nC), upd_same], by rw [eL]; exact PySem.TriplesOk_snoc _ _ _ _ ht, fun p' cv hcv => ?_⟩
        rw [eL] at hcv
        rcases among_app _ ht hcv with z | z
        · exact old ps (by rw [eq]; exact ha) p' cv z
        · exact ⟨c', z, by rw [eq, upd_same]⟩
      · obtain ⟨ps', a1, a2, a3⟩ := hT p hp
        exact ⟨ps', go _ _ a1 hb, a2, old ps' a3⟩
    refine h _ c' _ _ (inv_lam (F := ⟨X.env.qual ++ "<lambda>", params, body, scope, cloFrom X.env.cells scope.names [], c'⟩) J) (fun b o e n => keep n0 (go b o e (nP b o e n))) (fun b e => upd_none (upd_none (upd_none e))) (T1.ext fun b o e => keep n0 e) ?_ upd_same (keep n0 upd_same)
    exact I.hok.fresh (Nat.le_trans hge (Nat.le_of_lt hlt))
end
def tMkL (T : List (Addr × Str)) (mk : Addr → LF) : TE := fun _ H Q => Tabs T H ∧ ∀ (f c' : Addr) (H1 : Hp), ExtN H H1 → (∀ b, H1 b = Option.none → H b = Option.none) → Tabs T H1 → H f = none → H1 f = some (LamO f (mk c')) → H1 c' = some (CodeO c' (mk c').qual) → Q (.ref f) H1
theorem pe_lam {X : Cx} {T : List (Addr × Str)} {c P : Addr} {params : Arguments} {body : Expr} {scope : Scope} {pos : Pos} (TB : TabB X.base X.mg c P) (hcode : X.env.code = .ref c)
    (hm : (P, X.env.qual ++ "<lambda>") ∈ T) (hu : ∀ p ∈ T, p.1 = P → p.2 = X.env.qual ++ "<lambda>") (hdef : defaultsOf params X.env = ([], [])) (hfree : ∀ y ∈ scope.names, y.2 = .free → X.env.scope.names.lookup y.1 = some .cell ∨ X.env.scope.names.lookup y.1 = some .free) :
    PE X (.Lambda params body scope pos) (tMkL T fun c' => ⟨X.env.qual ++ "<lambda>", params, body, scope, cloFrom X.env.cells scope.names [], c'⟩) := by
  refine ⟨fun pins s σ H Q I h => ?_⟩
  obtain ⟨hT, h⟩ := h
  refine lam_new I TB hcode hm hu hT hdef (fun y hy e => (hfree y hy e).elim (fun z => I.ok.has _ (.inl z)) fun z => I.ok.has _ (.inr z)) fun f c' H1 s' I1 eN nn T1 f0 f1 c1 => ?_
  exact ⟨.ref f, H1, I1, rfl, h f c' H1 eN nn T1 f0 f1 c1⟩
/-! ### what such a function promises: sp ws, ws what its cells hold when it is called -/
structure LOk (P : Program) (w : World) (K : PySem.W.Frag) (mg : Str → Option Value) (base : Heap) (CX : CXT) (k : Nat) (F : LF) (ps fr : List Str) (sp : List (Option V) → Sp) : Prop where
  len : ∀ ws vs H Q E, sp ws vs H Q E → vs.length = ps.length
  run : ∀ (A : Around) (outer : List Env) (s : Shared) (H : Hp) (f : Addr) (us : List Value) (vs : List V) (ws : List (Option V)) (Q : VK) (E : XK), Room k A → Env0 P w K mg base A outer s H → H f = some (LamO f F) → H F.c = some (CodeO F.c F.qual) →
    CellsAt F.cl fr ws s.heap H → Vals vs us → sp ws vs H Q E → codeAny (model P w) A (.call (.ref f) ⟨us, []⟩) (CR CX outer P w H s Q E) s
section
variable {CX : CXT} {P : Program} {w : World} {K : PySem.W.Frag} {mg : Str → Option Value} {base : Heap} {N ps fr : List Str} {F : LF} {k : Nat} {sp : List (Option V) → Sp}
theorem lok_of (S : NScope N ps fr F.scope) (hb : ∀ (pm ctv : Value) (us : List Value), us.length = ps.length → bindArgs (PySem.W.kla_fn "<lambda>" F.qual F.params F.body F.scope F.cl pm (.ref F.c) ctv) ⟨us, []⟩ = pure (ps.zip us)) (len : ∀ ws vs H Q E, sp ws vs H Q E → vs.length = ps.length)
    (hbody : ∀ (A : Around) (outer : List Env) (s : Shared) (H : Hp) (f : Addr) (vs : List V) (ws : List (Option V)) (Q : VK) (E : XK), Room k (A.deeper (envF F.nf f s.heap.objs.size)) → ws.length = fr.length → sp ws vs H Q E →
      ∃ t, PE (ncx CX P w K mg base N F.nf f A outer s H E) F.body t ∧ t (startF N vs ws) H Q) :
    LOk P w K mg base CX (k + 1) F ps fr sp := by
  refine ⟨len, fun A outer s H f us vs ws Q E hr e0 hf hc C r hsp => ?_⟩
  have hl := len _ _ _ _ _ hsp
  have lim : s.heap.NoLimit := e0.mod.nolimit.keeps fun b o e => (e0.bs b o e).1
  obtain ⟨pm, ctv, ho⟩ := lamO_at e0.hok hf
  refine PySem.W.kla_callFunE hr.depth ho rfl S.co S.gen rfl (codeO_at e0.hok hc) ?_
  rw [hb pm ctv us (by rw [← r.length]; exact hl)]
  refine wpAny_pure (wpAny_newFunctionEnv S.nocell (fun ⟨n, _⟩ hy => S.par n (List.of_mem_zip hy).1) (fun h₁ hns hsb => ⟨lim.fresh _ hsb, ?_⟩) S.kind)
  show codeAny _ _ (.expr F.body (envF F.nf f s.heap.objs.size)) _ _
  have kp : ∀ b o, s.heap.get? b = some o → h₁.get? b = some o := fun b o e => hsb.extBut b o (Nat.ne_of_lt (Heap.lt_size e)) (Heap.get?_push_of_some _ e)
  obtain ⟨t, ht, hq⟩ := hbody A outer s H f vs ws Q E (hr.deeper _) C.len hsp
  have I : Inv (ncx CX P w K mg base N F.nf f A outer s H E) [] (startF N vs ws) H { s with heap := h₁, toks := s.toks + (ps.zip us).length } := inv_startN (F := F.nf) S hr.hd e0 hl r C hns kp
  refine PySem.W.kla_codeExpr (wpAny_mono (ht.run [] _ _ H Q I hq) (fun v s' z => ?_) fun e s' z => z)
  obtain ⟨w', H', J, rv, q⟩ := z
  exact ⟨w', H', J.os, J.bare, J.base, J.hok, rv, q⟩
end
/-! ### calls -/
section
variable {Z : Cx} {pins : List (Addr × Obj)} {σ : L2.St} {H : Hp} {s : Shared} {cl : List (Str × Addr)} {fr : List Str} {ws : List (Option V)}
/-- cells that stand in the base hold what they held there -/
theorem cells_base (C : CellsAt cl fr ws Z.base fun _ => none) (I : Inv Z pins σ H s) : CellsAt cl fr ws s.heap H := by
  have kp : ∀ c v, Z.base.IsCell c v → s.heap.IsCell c v := fun c v ⟨o, ho, hd⟩ => ⟨o, I.bk _ _ ho, hd⟩
  refine ⟨C.len, fun y c e => ?_, C.inj, fun i y e => ?_⟩
  · obtain ⟨_, v, z⟩ := C.all y c e
    have z2 := kp c v z
    obtain ⟨o, ho, _⟩ := z
    exact ⟨(I.bs _ _ ho).2, v, z2⟩
  · obtain ⟨c, hc, hv⟩ := C.has i y e
    refine ⟨c, hc, fun v ev => ?_⟩
    obtain ⟨u, r, z⟩ := hv v ev
    exact ⟨u, r, kp c _ z⟩
theorem cells_in {base' : Heap} (C : CellsAt cl fr ws s.heap H) (hb : ∀ y c, cl.lookup y = some c → base'.get? c = s.heap.get? c) : CellsAt cl fr ws base' fun _ => none := by
  have kp : ∀ y c, cl.lookup y = some c → ∀ v, s.heap.IsCell c v → base'.IsCell c v := fun y c e v ⟨o, ho, hd⟩ => ⟨o, (hb y c e).trans ho, hd⟩
  refine ⟨C.len, fun y c e => ?_, C.inj, fun i y e => ?_⟩
  · obtain ⟨_, v, z⟩ := C.all y c e
    exact ⟨rfl, v, kp y c e v z⟩
  · obtain ⟨c, hc, hv⟩ := C.has i y e
    refine ⟨c, hc, fun v ev => ?_⟩
    obtain ⟨u, r, z⟩ := hv v ev
    exact ⟨u, r, kp y c hc _ z⟩
theorem lamAt_of {f : Addr} {F : LF} (I : Inv Z pins σ H s) (e : H f = some (LamO f F)) : PySem.W.FnAt f s.heap := by
  obtain ⟨pm, ctv, ho⟩ := lamO_at I.hok e
  exact ⟨_, _, _, _, ho⟩
end
section
variable {Z : Cx} {CX : CXT} {F : LF} {ps fr : List Str} {ws : List (Option V)} {i j k : Nat} {x : Str} {sp : List (Option V) → Sp} {E : XK} {t : TA} {e : Expr} {es : List Expr} {p pos : Pos}
theorem run_l {pins : List (Addr × Obj)} {σ : L2.St} {H : Hp} {s : Shared} {Q : VK} {f : Addr} {us : List Value} {vs : List V} (Fn : LOk Z.prog Z.w Z.K Z.mg Z.base CX k F ps fr sp) (hr : Room j Z.A) (hk : k ≤ j) (hx : Passes CX Z E) (I : Inv Z pins σ H s)
    (hf : H f = some (LamO f F)) (hc : H F.c = some (CodeO F.c F.qual)) (C : CellsAt F.cl fr ws s.heap H) (r : Vals vs us) (q : sp ws vs H Q E) :
    wpAny (model Z.prog Z.w) Z.A (call (.ref f) us) (EP Z pins σ Q) Z.xe s := by
  refine wpAny_call (codeAny_mono (Fn.run Z.A Z.stack s H f us vs _ Q E (hr.mono hk) I.env0 hf hc C r q) fun r s' hq => ?_)
  cases r with
  | error er => exact hx pins σ H s er s' I hq
  | ok fl =>
    cases fl with
    | ret u => exact I.after hq
    | next => exact False.elim hq
    | brk => exact False.elim hq
    | cont => exact False.elim hq
/-- x(), x a name of the running frame that holds such a function; its maker's frame rests -/
theorem pe_callL0 (Fn : LOk Z.prog Z.w Z.K Z.mg Z.base CX k F [] fr sp) (C : CellsAt F.cl fr ws Z.base fun _ => none) (hr : Room j Z.A) (hk : k ≤ j) (hx : Passes CX Z E) (hN : Z.N[i]? = some x) (hv : Vis Z.env.scope x)
    (hd : (x == ("__debug__" : Str)) = false := by decide) (hcd : (x == ("__classdict__" : Str)) = false := by decide) :
    PE Z (.Call (.Name x p) [] [] pos) (fun σ H Q => ∃ f, σ[i]? = some (some (.ref f)) ∧ H f = some (LamO f F) ∧ H F.c = some (CodeO F.c F.qual) ∧ sp ws [] H Q E) := by
  refine ⟨fun pins s σ H Q I h => ?_⟩
  obtain ⟨f, hs, h1, h2, q⟩ := h
  refine wpAny_Call_Name_kw (thn ((pe_var (pos := p) hN hv hd hcd).run pins s σ H (fun v H1 => v = .ref f ∧ H1 = H) I ⟨.ref f, hs, rfl, rfl⟩) fun u s1 ⟨v, H1, I1, r1, ev, eH⟩ => ?_)
  subst ev
  rw [eH] at I1
  obtain rfl : u = Value.ref f := r1
  exact PySem.W.callWith_F0 (first := []) (lamAt_of I1 h1) (run_l Fn hr hk hx I1 h1 h2 (cells_base C I1) .nil q)
/-- x(e, ..) -/
theorem pe_callL (Fn : LOk Z.prog Z.w Z.K Z.mg Z.base CX k F ps fr sp) (C : CellsAt F.cl fr ws Z.base fun _ => none) (hr : Room j Z.A) (hk : k ≤ j) (hx : Passes CX Z E) (hN : Z.N[i]? = some x) (hv : Vis Z.env.scope x) (ha : PA Z (e :: es) t)
    (hd : (x == ("__debug__" : Str)) = false := by decide) (hcd : (x == ("__classdict__" : Str)) = false := by decide)
    (he : starEach (e :: es) Z.env = (false, eval e Z.env) :: starEach es Z.env := by rfl) (hpl : (backTo pos (starEach es Z.env)).any (·.1) = false := by rfl) :
    PE Z (.Call (.Name x p) (e :: es) [] pos) (fun σ H Q => ∃ f, σ[i]? = some (some (.ref f)) ∧ H f = some (LamO f F) ∧ t σ H fun vs H1 => H1 f = some (LamO f F) ∧ H1 F.c = some (CodeO F.c F.qual) ∧ sp ws vs H1 Q E) := by
  refine ⟨fun pins s σ H Q I h => ?_⟩
  obtain ⟨f, hs, h1, ht⟩ := h
  refine wpAny_Call_Name_kw (thn ((pe_var (pos := p) hN hv hd hcd).run pins s σ H (fun v H1 => v = .ref f ∧ H1 = H) I ⟨.ref f, hs, rfl, rfl⟩) fun u s1 ⟨v, H1, I1, r1, ev, eH⟩ => ?_)
  subst ev
  rw [eH] at I1
  obtain rfl : u = Value.ref f := r1
  refine PySem.W.callWith_F (first := []) (lamAt_of I1 h1) (thn (ha.run pos pins s1 σ H _ I1 ht) fun us s2 ⟨vs, H2, I2, r, h3, h4, q⟩ => ⟨lamAt_of I2 h3, ?_⟩) he hpl
  exact run_l Fn hr hk hx I2 h3 h4 (cells_base C I2) r q
end
end Hs
namespace Hs
open PySem PySem.Spec PyProof.Rows L2 LamX NdefX
/-! ### a call under a wider base: the caller's cells stand in it, so that they are known in every frame below -/
theorem env_more {X : Cx} {pins : List (Addr × Obj)} {σ : L2.St} {H : Hp} {s : Shared} (I : Inv X pins σ H s) (hfn : ∀ y, X.fn y = true) :
    ∃ base' : Heap, (∀ b o, X.base.get? b = some o → base'.get? b = some o) ∧ (∀ y c, X.env.cells.lookup y = some c → base'.get? c = s.heap.get? c) ∧ Env0 X.prog X.w X.K X.mg base' X.A X.stack s H := by
  have isC : ∀ y c, X.env.cells.lookup y = some c → c ∈ X.env.cells.map (·.2) := fun y c e => List.mem_map.mpr ⟨(y, c), PySem.mem_of_lookup e, rfl⟩
  let cs := (X.env.cells.filter fun q => X.env.cells.lookup q.1 == some q.2).map (·.2)
  have csC : ∀ c, c ∈ cs → ∃ y, X.env.cells.lookup y = some c := fun c hc => by
    obtain ⟨q, hq, e⟩ := List.mem_map.mp hc
    have z := (List.mem_filter.mp hq).2
    exact ⟨q.1, by rw [← e]; exact beq_iff_eq.mp z⟩
  have inC : ∀ y c, X.env.cells.lookup y = some c → c ∈ cs := fun y c e => List.mem_map.mpr ⟨(y, c), List.mem_filter.mpr ⟨PySem.mem_of_lookup e, by rw [beq_iff_eq]; exact e⟩, rfl⟩
  let l := (List.range s.heap.objs.size).filter fun b => (X.base.get? b).isNone && !(cs.contains b)
  have inL : ∀ b, b < s.heap.objs.size → X.base.get? b = none → b ∉ cs → b ∈ l := fun b h1 h2 h3 => by
    refine List.mem_filter.mpr ⟨List.mem_range.mpr h1, ?_⟩
    rw [h2]
    have h4 : cs.contains b = false := by
      cases q : cs.contains b with
      | false => rfl
      | true => exact absurd (List.contains_iff_mem.mp q) h3
    rw [h4] <;> rfl
  have outL : ∀ b, b ∈ l → X.base.get? b = none ∧ b ∉ cs := fun b hb => by
    have z := (List.mem_filter.mp hb).2
    obtain ⟨z1, z2⟩ := Bool.and_eq_true_iff.mp z
    refine ⟨Option.isNone_iff_eq_none.mp z1, fun q => ?_⟩
    rw [List.contains_iff_mem.mpr q] at z2
    cases z2
  have E0 := I.env0
  have up : ∀ b o, X.base.get? b = some o → (PySem.W.hideAll s.heap l).get? b = some o := fun b o e => PySem.W.hideAll_get l (E0.bs b o e).1 fun z => by
    rw [(outL b z).1] at e
    cases e
  refine ⟨PySem.W.hideAll s.heap l, up, fun y c e => ?_, E0.frames, ⟨E0.mod.kin.keeps up, E0.mod.glob.keeps up, ?_, E0.mod.nolimit.keeps up⟩, fun b o e => ?_, Nat.le_of_eq (PySem.W.hideAll_size _ _), ?_, E0.frf, E0.hok, E0.bare⟩
  · obtain ⟨v, o, ho, _⟩ := I.cell y c e
    rw [ho]
    exact PySem.W.hideAll_get l ho fun z => (outL c z).2 (inC y c e)
  · obtain ⟨mb, h1, h2⟩ := E0.mod.blt
    exact ⟨mb, h1.keeps up, h2⟩
  · have e1 := PySem.W.of_hideAll l e
    refine ⟨e1, ?_⟩
    by_cases hc : b ∈ cs
    · obtain ⟨y, hy⟩ := csC b hc
      exact I.freeC y b hy
    · cases hb : X.base.get? b with
      | some o' => exact (E0.bs b o' hb).2
      | none =>
        rw [PySem.W.hideAll_none l (inL b (Heap.lt_size e1) hb hc)] at e
        cases e
  · refine funFrames_none E0.funs fun L hL => ?_
    obtain ⟨hn, o, ho, _⟩ := E0.funs.mem hL
    refine PySem.W.hideAll_none l (inL L (Heap.lt_size ho) hn fun hc => ?_)
    obtain ⟨y, hy⟩ := csC L hc
    rcases List.mem_cons.mp (I.stkSub L hL) with z | z
    · exact I.cne y L hy z
    · obtain ⟨_, o2, ho2, _⟩ := I.ok.funs.mem z
      exact absurd (Nat.lt_of_lt_of_le (Heap.lt_size ho2) (I.ok.cab y L (hfn y) hy)) (Nat.lt_irrefl _)
/-- base' holds the running frame's cells, with what its names stand for -/
def Clo (X : Cx) (σ : L2.St) (base' : Heap) : Prop := ∀ (cl : List (Str × Addr)) (fr : List Str) (js : List Nat), (X.Ok → Caps X cl fr js) → CellsAt cl fr (js.map (slotAt σ)) base' fun _ => none
/-- an own def that gets functions which the running frame made -/
theorem pe_ownB {X : Cx} {k j : Nat} {x : Str} {ps : List Str} {sp : Heap → Sp} {e : Expr} {es : List Expr} {t : TA} {p pos : Pos} (O : ∀ base', (∀ b o, X.base.get? b = some o → base'.get? b = some o) → Own X.prog X.w X.K X.mg base' k x ps (sp base')) (hfn : ∀ y, X.fn y = true) (hr : Room j X.A) (hk : k ≤ j) (hg : Gl X x) (ha : PA X (e :: es) t)
    (hdb : (x == ("__debug__" : Str)) = false := by decide) (he : starEach (e :: es) X.env = (false, eval e X.env) :: starEach es X.env := by rfl) (hpl : (backTo pos (starEach es X.env)).any (·.1) = false := by rfl) :
    PE X (.Call (.Name x p) (e :: es) [] pos) (fun σ H Q => t σ H fun vs H1 => ∀ base', (∀ b o, X.base.get? b = some o → base'.get? b = some o) → Clo X σ base' → sp base' vs H1 Q C8.E0) := by
  obtain ⟨f, fd, _, m, kp, b⟩ := (O X.base fun _ _ z => z).ex
  refine ⟨fun pins s σ H Q I h => ?_⟩
  refine wpAny_Call_Name_kw (ld_glob I hg m ?_ hdb)
  refine PySem.W.callWith_K (h₀ := X.base) I.ok.mod.kin kp (thn (ha.run pos pins s σ H _ I h) fun us s1 ⟨vs, H1, I1, r, q⟩ => ⟨I1.kIn, ?_⟩) he hpl
  obtain ⟨base', up, cells, E1⟩ := env_more I1 hfn
  have q1 := q base' up fun cl fr js cp => cells_in (cells_of I1 (cp I1.ok)) fun y c e => cells y c ((cp I1.ok).sub y c e)
  obtain ⟨f', fd', F, m', kp', b'⟩ := (O base' up).ex
  have ef : f' = f := by
    rw [m] at m'
    cases m'
    rfl
  subst ef
  have hl : vs.length = ps.length := F.len _ _ _ _ q1
  refine wpAny_call (codeAny_mono (F.run X.A X.stack s1 H1 ⟨us, []⟩ us vs Q C8.E0 (hr.mono hk) E1 ?_ r q1) fun r s' hq => ?_)
  · have z := b' s1 us I1.kIn (by rw [List.append_nil, ← r.length, hl])
    rw [List.append_nil] at z
    exact z
  · cases r with
    | error er => exact (show False from hq).elim
    | ok fl =>
      cases fl with
      | ret u => exact I1.after hq
      | next => exact False.elim hq
      | brk => exact False.elim hq
      | cont => exact False.elim hq
end Hs
namespace Hs
open PySem PySem.Spec PyProof.Rows L2 Evl
/-! ### the law -/
theorem tabs_but {T : List (Addr × Str)} {H H' : Hp} {b : Addr} {xs : List V} (t : LamX.Tabs T H) (hb : H b = some (.lst xs)) (k : But H H' b) : LamX.Tabs T H' := fun p hp => by
  obtain ⟨ps, h1, h2, h3⟩ := t p hp
  refine ⟨ps, k _ _ h1 (ne_of h1 hb (by intro z; cases z)), h2, fun pos cv hc => ?_⟩
  obtain ⟨c, e1, e2⟩ := h3 pos cv hc
  exact ⟨c, e1, k _ _ e2 (ne_of e2 hb (by intro z; unfold LamX.CodeO at z; cases z))⟩
theorem tabs_upd {T : List (Addr × Str)} {H : Hp} {b : Addr} {xs : List V} {o : HO} (t : LamX.Tabs T H) (hb : H b = some (.lst xs)) : LamX.Tabs T (upd H b o) := tabs_but t hb (But.upd But.refl)
theorem bag_extN {H H' : Hp} {b l : Addr} {ns : List Int} {n : Nat} (B : BagAt H b l ns n) (e : LamX.ExtN H H') : BagAt H' b l ns n := by
  obtain ⟨⟨i, z, s, c, h1, h2, h3, h4, h5⟩, h6, h7⟩ := B
  exact ⟨⟨i, z, s, c, e _ _ h1 (fun _ z => by cases z), h2, h3, h4, h5⟩, e _ _ h6 (fun _ z => by cases z), h7⟩
end Hs
namespace Hs
open PySem PySem.Spec PyProof.Rows L2 Evl LamX NdefX
/-! ### new tuples in a row, a function of a share -/
theorem ex_tN {K : PySem.W.Frag} {H H' : Hp} {a : Addr} {xs : List V} (e : ExtN H H') (h : SqT K H a xs) : SqT K H' a xs := by
  rcases h with (h | ⟨o, h⟩) | h
  · exact Or.inl (Or.inl (e a _ h fun _ z => by cases z))
  · exact Or.inl (Or.inr ⟨o, e a _ h fun _ z => by cases z⟩)
  · exact Or.inr h
theorem Pl.extN {K : PySem.W.Frag} {n : Nat} {H H' : Hp} {p : Addr} {x : Pt} (h : Pl K n H p x) (e : ExtN H H') : Pl K n H' p x := ⟨ex_tN e h.1, h.2⟩
/-- a tuple of these, new or not -/
def EvW (te : TE) (σ : L2.St) (H : Hp) (u : List V) : Prop := ∀ H1, Ex H H1 → ∀ Q : VK, (∀ p H2, Ex H1 H2 → H2 p = some (.tup u) → Q (.ref p) H2) → te σ H1 Q
theorem ew_u {te : TE} {σ : L2.St} {H : Hp} {u : List V} (h : EvU te σ H u) : EvW te σ H u := fun H1 e Q q => h H1 e Q fun p H2 _ e2 h2 => q p H2 e2 h2
theorem ew_var {σ : L2.St} {H : Hp} {u : List V} {p : Addr} {i : Nat} (hs : σ[i]? = some (some (.ref p))) (h : H p = some (.tup u)) : EvW (tVar i) σ H u := fun H1 e Q q => ⟨_, hs, q p H1 (Ex.refl H1) (e _ _ h)⟩
def EvP (ta : TA) (σ : L2.St) (H : Hp) (us : List (List V)) : Prop := ∀ H1, Ex H H1 → ∀ Q : List V → Hp → Prop, (∀ (ps : List Addr) (H2 : Hp), Ex H1 H2 → Tups H2 ps us → Q (ps.map V.ref) H2) → ta σ H1 Q
theorem ep_nil {σ : L2.St} {H : Hp} : EvP tNil σ H [] := fun H1 _ Q q => q [] H1 (Ex.refl H1) ⟨rfl, fun i p u h => by cases h⟩
theorem ep_cons {σ : L2.St} {H : Hp} {te : TE} {tr : TA} {u : List V} {us : List (List V)} (h : EvW te σ H u) (hr : EvP tr σ H us) : EvP (tCons te tr) σ H (u :: us) := fun H1 e Q q =>
  h H1 e _ fun p H2 e2 h2 => hr H2 (e.trans e2) _ fun ps H3 e3 h3 => q (p :: ps) H3 (e2.trans e3) ⟨by rw [List.length_cons, List.length_cons, h3.1], fun i r v hr hv => by
    cases i with
    | zero => cases hr; cases hv; exact e3 _ _ h2
    | succ i => exact h3.2 i r v hr hv⟩
theorem elu_lst {σ : L2.St} {H : Hp} {ta : TA} {us : List (List V)} (h : EvP ta σ H us) (hz : us.length ≤ 1000) : EvLU (tLst ta) σ H us := fun H1 e Q q =>
  h H1 e _ fun ps H2 e2 h2 => ⟨sz_of (by rw [List.length_map, h2.1]; omega), fun p hp => q p ps _ (fresh_back e2 hp) (e2.trans (Ex.new hp)) upd_same (h2.ext (Ex.new hp))⟩
theorem q_asgLU {te : TE} {tz : TS} {D : Ends} {σ : L2.St} {H : Hp} {i : Nat} {us : List (List V)} (h : EvLU te σ H us) (k : ∀ p ps H1, H p = none → Ex H H1 → H1 p = some (.lst (ps.map V.ref)) → Tups H1 ps us → tz D (σ.set i (some (.ref p))) H1) : tSeq (tAsg te (gName i)) tz D σ H := h H (Ex.refl H) _ fun p ps H1 hp e h1 h2 => k p ps H1 hp e h1 h2
theorem s_asgLU {te : TE} {D : Ends} {σ : L2.St} {H : Hp} {i : Nat} {us : List (List V)} (h : EvLU te σ H us) (k : ∀ p ps H1, H p = none → Ex H H1 → H1 p = some (.lst (ps.map V.ref)) → Tups H1 ps us → D.nx (σ.set i (some (.ref p))) H1) : tAsg te (gName i) D σ H := h H (Ex.refl H) _ fun p ps H1 hp e h1 h2 => k p ps H1 hp e h1 h2
/-- x(e), x a name that holds a function F -/
def tLam (F : LF) (ws : List (Option V)) (sp : List (Option V) → Sp) (i : Nat) (t : TA) : TE := fun σ H Q => ∃ f, σ[i]? = some (some (.ref f)) ∧ H f = some (LamO f F) ∧ t σ H fun vs H1 => H1 f = some (LamO f F) ∧ H1 F.c = some (CodeO F.c F.qual) ∧ sp ws vs H1 Q C8.E0
theorem pe_lam1 {Z : Cx} {F : LF} {ps fr : List Str} {ws : List (Option V)} {i j k : Nat} {x : Str} {sp : List (Option V) → Sp} {t : TA} {e : Expr} {es : List Expr} {p pos : Pos} (Fn : LOk Z.prog Z.w Z.K Z.mg Z.base CX0 k F ps fr sp) (C : CellsAt F.cl fr ws Z.base fun _ => none) (hr : Room j Z.A) (hk : k ≤ j) (ha : PA Z (e :: es) t) (hN : Z.N[i]? = some x := by rfl) (hv : Vis Z.env.scope x := by first | exact Or.inl rfl | exact Or.inr (Or.inl rfl) | exact Or.inr (Or.inr rfl))
    (hd : (x == ("__debug__" : Str)) = false := by decide) (hcd : (x == ("__classdict__" : Str)) = false := by decide)
    (he : starEach (e :: es) Z.env = (false, eval e Z.env) :: starEach es Z.env := by rfl) (hpl : (backTo pos (starEach es Z.env)).any (·.1) = false := by rfl) :
    PE Z (.Call (.Name x p) (e :: es) [] pos) (tLam F ws sp i t) := pe_callL Fn C hr hk (fun _ _ _ _ _ _ _ h => h.elim) hN hv ha hd hcd he hpl
/-- the captured names stand as cells -/
def freeB (sc : Scope) (ns : List (Str × NameKind)) : Bool := ns.all fun y => !decide (y.2 = .free) || decide (sc.names.lookup y.1 = some .cell) || decide (sc.names.lookup y.1 = some .free)
theorem free_by {sc : Scope} {ns : List (Str × NameKind)} (h : freeB sc ns = true) : ∀ y ∈ ns, y.2 = .free → sc.names.lookup y.1 = some .cell ∨ sc.names.lookup y.1 = some .free := by
  unfold freeB at h
  simp only [Bool.or_eq_true, Bool.not_eq_true', decide_eq_true_eq, decide_eq_false_iff_not, List.all_eq_true] at h
  intro y hy e
  rcases h y hy with (z | z) | z
  · exact absurd e z
  · exact .inl z
  · exact .inr z
theorem caps_ns {X : Cx} {ns : List (Str × NameKind)} {fr : List Str} {js : List Nat} (ok : X.Ok) (hfree : ∀ y ∈ ns, y.2 = .free → X.env.scope.names.lookup y.1 = some .cell ∨ X.env.scope.names.lookup y.1 = some .free) (hfr : ∀ y ∈ fr, (y, NameKind.free) ∈ ns) (hjs : js.map (fun j => X.N[j]?) = fr.map some) : Caps X (cloFrom X.env.cells ns []) fr js :=
  NdefX.Caps.made (scope := { kind := .function, names := ns, isGenerator := false, isCoroutine := false }) ok hfree hfr hjs
/-- what F tells of a share: G -/
structure GF (K : PySem.W.Frag) (n : Nat) (H : Hp) (f : Addr) (F : LF) (ws : List (Option V)) (sp : List (Option V) → Sp) (G : Pt → Bool) : Prop where
  l : H f = some (LamO f F)
  c : H F.c = some (CodeO F.c F.qual)
  t : ∀ (q : Addr) (s : Pt) (H' : Hp) (Q : VK) (E : XK), Ex H H' → Pl K n H' q s → Fr1 s → RetV (.bl (G s)) H' Q → sp ws [.ref q] H' Q E
theorem GF.ext {K : PySem.W.Frag} {n : Nat} {H H' : Hp} {f : Addr} {F : LF} {ws : List (Option V)} {sp : List (Option V) → Sp} {G : Pt → Bool} (g : GF K n H f F ws sp G) (e : Ex H H') : GF K n H' f F ws sp G := ⟨e _ _ g.l, e _ _ g.c, fun q s H2 Q E e2 => g.t q s H2 Q E (e.trans e2)⟩
section
variable {K : PySem.W.Frag} {n i : Nat} {σ : L2.St} {H : Hp} {f : Addr} {F : LF} {ws : List (Option V)} {sp : List (Option V) → Sp} {G : Pt → Bool} {te : TE} {s : Pt}
theorem ev_good {q : Addr} (g : GF K n H f F ws sp G) (hs : σ[i]? = some (some (.ref f))) (h : Ev te σ H (.ref q)) (hq : Pl K n H q s) (hf : Fr1 s) : Ev (tLam F ws sp i (tCons te tNil)) σ H (.bl (G s)) := fun H1 e Q k =>
  ⟨f, hs, e _ _ g.l, h H1 e _ fun H2 e2 => ⟨(e.trans e2) _ _ g.l, (e.trans e2) _ _ g.c, g.t q s H2 Q _ (e.trans e2) (hq.ext (e.trans e2)) hf fun H3 e3 => k H3 (e2.trans e3)⟩⟩
theorem ev_goodU (g : GF K n H f F ws sp G) (hs : σ[i]? = some (some (.ref f))) (h : EvU te σ H (prV s)) (hb : Bd n s.1 ∧ Bd n s.2) (hf : Fr1 s) : Ev (tLam F ws sp i (tCons te tNil)) σ H (.bl (G s)) := fun H1 e Q k =>
  ⟨f, hs, e _ _ g.l, h H1 e _ fun q H2 _ e2 h2 => ⟨(e.trans e2) _ _ g.l, (e.trans e2) _ _ g.c, g.t q s H2 Q _ (e.trans e2) ⟨st_of h2, hb⟩ hf fun H3 e3 => k H3 (e2.trans e3)⟩⟩
end
theorem low_bd {n : Nat} {a b : Int} (h : b ≠ 0) (ha : Bd n a) (hb : Bd n b) : Bd n (low a b).1 ∧ Bd n (low a b).2 := ⟨Nat.lt_of_le_of_lt (low_b1 h) ha, Nat.lt_of_le_of_lt (low_b2 h) hb⟩
theorem low_fr {a b : Int} (h : 0 < b) (h0 : 0 ≤ a) (h1 : a ≤ b) : Fr1 (low a b) := by
  obtain ⟨p, g, g0, e1, e2⟩ := low_ratio (a := a) (b := b) h
  have gg := low_gcd (a := a) (b := b) (by omega)
  generalize low a b = s at *
  refine ⟨p, ?_, ?_, gg⟩
  · refine Decidable.byContradiction fun hn => ?_
    have := Int.mul_neg_of_pos_of_neg g0 (show s.1 < 0 by omega)
    omega
  · exact Int.le_of_mul_le_mul_left (show g * s.1 ≤ g * s.2 by omega) g0
theorem given_false (n : Nat) : given n (fun _ => true) (fun _ => V.bl false) = (List.replicate n false).map V.bl := by
  induction n with
  | zero => rfl
  | succ n ih =>
    rw [given_yes rfl, ih, List.replicate_succ', List.map_append] <;> rfl
theorem ev_anyF {K : PySem.W.Frag} {σ : L2.St} {H : Hp} {te : TE} {n : Nat} (h : EvL te σ H (given n (fun _ => true) (fun _ => V.bl false))) : Ev (tCB (rAny K) (tCons te tNil)) σ H (.bl false) := fun H1 e Q q =>
  h H1 e _ fun p H2 _ e2 h2 => ⟨p, List.replicate n false, rfl, sq_of (by rw [h2, given_false]), by
    have e3 : (List.replicate n false).any id = false := by simp
    rw [e3]
    exact q H2 e2⟩
end Hs
namespace Hs
theorem one_bd {n : Nat} {i : Int} (h : i.natAbs = 1) : Bd (n + 1) i := by
  unfold Bd
  rw [h]
  exact Nat.one_lt_two_pow (by omega)
end Hs
namespace Hs
open PySem PySem.Spec PyProof.Rows L2 Evl LamX NdefX
/-! ### what is told of a span -/
def big9 : Int := 10 ^ 9
structure SpanG (lo hi : Pt) (G : Pt → Bool) : Prop where
  lo1 : Fr1 lo
  hi1 : Fr1 hi
  le : lo.1 * hi.2 ≤ hi.1 * lo.2
  glo : G lo = true
  ghi : G hi = true
  gmid : G (halfS lo hi) = true
  low : 0 < lo.1 → G (0, 1) = false ∧ G (halfS (0, 1) lo) = false ∧ G (low (lo.1 * big9 - 1) (lo.2 * big9)) = false
  high : hi.1 < hi.2 → G (1, 1) = false ∧ G (halfS (1, 1) hi) = false ∧ G (Hs.low (hi.1 * big9 + 1) (hi.2 * big9)) = false
theorem span_of {hs : List (List Int)} {lo hi : Pt} {G : Pt → Bool} (E : EndsOk hs lo hi) (hG : ∀ s, Fr1 s → (G s = true ↔ Good hs s)) : SpanG lo hi G := by
  have bad : ∀ s, Fr1 s → ¬ Good hs s → G s = false := fun s f h => by
    cases q : G s with
    | false => rfl
    | true => exact absurd ((hG s f).mp q) h
  have hf := fun {x y : Pt} (hx : Fr1 x) (hy : Fr1 y) => low_fr (half_in hx hy).1 (half_in hx hy).2.1 (half_in hx hy).2.2
  refine ⟨E.lo1, E.hi1, E.le, (hG _ E.lo1).mpr (good_lo E), (hG _ E.hi1).mpr (good_hi E), (hG _ (hf E.lo1 E.hi1)).mpr (good_half E), fun h => ⟨bad _ fr0 (bad_0 E h), bad _ (hf fr0 E.lo1) (bad_half0 E h), bad _ ?_ (bad_just0 E h (by decide))⟩, fun h => ⟨bad _ fr1 (bad_1 E h), bad _ (hf fr1 E.hi1) (bad_half1 E h), bad _ ?_ (bad_just1 E h (by decide))⟩⟩
  · have p := E.lo1.pos
    have l := E.lo1.le
    unfold big9
    exact low_fr (by omega) (by omega) (by omega)
  · have p := E.hi1.pos
    have l := E.hi1.nn
    unfold big9
    exact low_fr (by omega) (by omega) (by omega)
def spSpan (P : Program) (w : World) (K : PySem.W.Frag) (mg : Str → Option Value) (k n m : Nat) (base : Heap) : Sp := fun vs H Q _ => ∃ (p a b f : Addr) (lo hi : Pt) (G : Pt → Bool) (F : LF) (fr : List Str) (ws : List (Option V)) (sp : List (Option V) → Sp), vs = [.ref p, .ref f] ∧ SqT K H p [.ref a, .ref b] ∧ Pl K n H a lo ∧ Pl K n H b hi ∧ SpanG lo hi G ∧
  LOk P w K mg base CX0 k F ["_law_share"] fr sp ∧ CellsAt F.cl fr ws base (fun _ => none) ∧ GF K m H f F ws sp G ∧ RetV (.bl true) H Q
/-- shares beyond: a list of them -/
def Beyond (K : PySem.W.Frag) (m : Nat) (G : Pt → Bool) (H : Hp) (ps : List Addr) : Prop := ps.length ≤ 6 ∧ ∀ p ∈ ps, ∃ s, Pl K m H p s ∧ Fr1 s ∧ G s = false
theorem Beyond.ext {K : PySem.W.Frag} {m : Nat} {G : Pt → Bool} {H H' : Hp} {ps : List Addr} (h : Beyond K m G H ps) (e : Ex H H') : Beyond K m G H' ps := ⟨h.1, fun p hp => by
  obtain ⟨s, h1, h2⟩ := h.2 p hp
  exact ⟨s, h1.ext e, h2⟩⟩
theorem beyond3 {K : PySem.W.Frag} {m : Nat} {G : Pt → Bool} {H : Hp} {ps : List Addr} {x y z : Pt} (T : Tups H ps [prV x, prV y, prV z]) (hx : (Bd m x.1 ∧ Bd m x.2) ∧ Fr1 x ∧ G x = false) (hy : (Bd m y.1 ∧ Bd m y.2) ∧ Fr1 y ∧ G y = false) (hz : (Bd m z.1 ∧ Bd m z.2) ∧ Fr1 z ∧ G z = false) : ps.length = 3 ∧ ∀ p ∈ ps, ∃ s, Pl K m H p s ∧ Fr1 s ∧ G s = false := by
  obtain ⟨p1, p2, p3, rfl⟩ : ∃ p1 p2 p3, ps = [p1, p2, p3] := match ps, T.1 with
    | [p1, p2, p3], _ => ⟨p1, p2, p3, rfl⟩
  refine ⟨rfl, fun p hp => ?_⟩
  have h1 := T.2 0 p1 _ rfl rfl
  have h2 := T.2 1 p2 _ rfl rfl
  have h3 := T.2 2 p3 _ rfl rfl
  simp only [List.mem_cons, List.not_mem_nil, or_false] at hp
  rcases hp with rfl | rfl | rfl
  · exact ⟨x, ⟨st_of h1, hx.1⟩, hx.2⟩
  · exact ⟨y, ⟨st_of h2, hy.1⟩, hy.2⟩
  · exact ⟨z, ⟨st_of h3, hz.1⟩, hz.2⟩
theorem half_bd {n m : Nat} {x y : Pt} (h0 : 2 * x.2 * y.2 ≠ 0) (hx : Bd n x.1 ∧ Bd n x.2) (hy : Bd n y.1 ∧ Bd n y.2) (hm : 2 * n + 2 ≤ m) : Bd m (halfS x y).1 ∧ Bd m (halfS x y).2 := by
  have b2 : Bd 2 2 := by
    unfold Bd
    decide
  exact low_bd h0 (((hx.1.mul hy.2).add (hy.1.mul hx.2)).mono (by omega)) (((b2.mul hx.2).mul hy.2).mono (by omega))
theorem bd_one {n : Nat} (h : 0 < n) : Bd n 1 := one_lt h
where one_lt {n : Nat} (h : 0 < n) : (1 : Int).natAbs < 2 ^ n := Nat.one_lt_two_pow (by omega)
theorem bd_nil {n : Nat} : Bd n 0 := Nat.two_pow_pos n
theorem bd_big : Bd 30 big9 := by
  unfold Bd
  decide
section
variable {P : Program} {w : World} {K : PySem.W.Frag} {mg : Str → Option Value} {base : Heap} {f : Addr} {fd : FuncData} {n m : Nat}
theorem eu_halfC {σ : L2.St} {H : Hp} {E : XK} {x y : Int} {q : Addr} {z : Pt} {j : Nat} (hs : σ[j]? = some (some (.ref q))) (hq : Pl K n H q z) (hx : Bd n x ∧ Bd n y) (h0 : y ≠ 0) (h1 : z.2 ≠ 0) : EvU (tCall (spHalf K n) [] E (tCons (tTup (tCons (tC (.int x)) (tCons (tC (.int y)) tNil))) (tCons (tVar j) tNil))) σ H (prV (halfS (x, y) z)) := fun H1 e Q k =>
  ⟨sz_of (by simp), fun t ht => ⟨_, hs, t, q, (x, y), z, rfl, ⟨st_of upd_same, hx⟩, hq.ext (e.trans (Ex.new ht)), h0, h1, fun p H2 hp e2 h2 => k p H2 (fresh_back (Ex.new ht) hp) ((Ex.new ht).trans e2) h2⟩⟩
theorem eu_half {σ : L2.St} {H : Hp} {E : XK} {p q : Addr} {x z : Pt} {i j : Nat} (hi : σ[i]? = some (some (.ref p))) (hs : σ[j]? = some (some (.ref q))) (hp : Pl K n H p x) (hq : Pl K n H q z) (h0 : x.2 ≠ 0) (h1 : z.2 ≠ 0) : EvU (tCall (spHalf K n) [] E (tCons (tVar i) (tCons (tVar j) tNil))) σ H (prV (halfS x z)) := fun H1 e Q k =>
  ⟨_, hi, _, hs, p, q, x, z, rfl, hp.ext e, hq.ext e, h0, h1, fun p H2 hp e2 h2 => k p H2 hp e2 h2⟩
abbrev sSpan : Stmt := top 40
theorem scSpan : FnScope ["_law_found", "_law_good", "_law_low_here", "_law_high", "_law_some", "_law_more", "_law_share"] ["_law_found", "_law_good"] (defScope sSpan) := ⟨rfl, rfl, rfl, by decide +kernel, rfl, by decide +kernel, by decide +kernel⟩
theorem ok_span {k : Nat} (F : FnP K "_law_span_so" sSpan f fd) (O__law_is_share : Own P w K mg base 2 "_law_is_share" ["_law_one_here"] (spIsSh K n)) (O__law_before : Own P w K mg base 1 "_law_before" ["_law_one_here", "_law_other"] (spOrd K n)) (O__law_half : Own P w K mg base 3 "_law_half" ["_law_one_here", "_law_other"] (spHalf K n)) (O__law_low : Own P w K mg base 2 "_law_low" ["_law_top", "_law_bottom"] spLow)
    (g_isinstance : mg "isinstance" = none) (g_tuple : mg "tuple" = none) (g_len : mg "len" = none) (g_any : mg "any" = none) (hn : 2 ≤ n ∧ n ≤ 6000) (hm : 2 * n + 2 ≤ m ∧ n + 31 ≤ m) (hk : 3 ≤ k) : FnOk P w K mg base CX0 (k + 1) f fd ["_law_found", "_law_good"] (spSpan P w K mg k n m base) := by
  have nd := scSpan.nd
  refine F.ok scSpan (fun vs H Q E h => ?_) (fun cdv A outer s H vs Q E hr h => ?_)
  · obtain ⟨p, a, b, f, lo, hi, G, F, fr, ws, sp, rfl, _⟩ := h
    rfl
  · obtain ⟨p, a, b, f, lo, hi, G, F, fr, ws, sp, rfl, hp, ha, hb, S, LO, CC, g, kk⟩ := h
    refine ⟨_, PSs.nox (pss_cons (ps_if (PW.pt (pw_or (pt_not (pt_val (pe_callB (r := rIsi K) call_isi (by rfl) g_isinstance (by decide +kernel) (pa_cons (pv 0) (pa_cons (pe_bltn (v := .ty "tuple") (by rfl) g_tuple (by decide +kernel) rfl) pa_nil))))) (pw_or (pt_cmpR op_ne (pe_callB (r := Evl.rLenS K) call_len_seq (by rfl) g_len PySem.boot_len (pa_cons (pv 0) pa_nil)) pe_int (nomark _)) (pw_or (pt_not (pt_val (Hs.pe_own O__law_is_share hr (by first | decide | omega) (by rfl) (pa_cons (pe_ix (r := rIxT K) ix_tup (pv 0) pe_int (fun _ _ => rfl)) pa_nil)))) (pw_or1 (pt_not (pt_val (Hs.pe_own O__law_is_share hr (by first | decide | omega) (by rfl) (pa_cons (pe_ix (r := rIxT K) ix_tup (pv 0) pe_int (fun _ _ => rfl)) pa_nil))))))))) (pss_one (ps_ret pe_bl)) pss_nil)
  (pss_cons (ps_asg (pv 0) (pg_tup rfl (pgs_cons (pg_name (i := 2) nd rfl (.inl rfl)) (pgs_cons (pg_name (i := 3) nd rfl (.inl rfl)) pgs_nil))))
  (pss_cons (ps_if (PW.pt (pw_or (pt_cmpR op_lt (Hs.pe_own O__law_before hr (by first | decide | omega) (by rfl) (pa_cons (pv 3) (pa_cons (pv 2) pa_nil))) pe_int (nomark _)) (pw_or (pt_not (pt_val (Hs.pe_lam1 (i := 1) LO CC hr (by omega) (pa_cons (pv 2) pa_nil)))) (pw_or (pt_not (pt_val (Hs.pe_lam1 (i := 1) LO CC hr (by omega) (pa_cons (pv 3) pa_nil)))) (pw_or1 (pt_not (pt_val (Hs.pe_lam1 (i := 1) LO CC hr (by omega) (pa_cons (Hs.pe_own O__law_half hr (by first | decide | omega) (by rfl) (pa_cons (pv 2) (pa_cons (pv 3) pa_nil))) pa_nil))))))))) (pss_one (ps_ret pe_bl)) pss_nil)
  (pss_cons (ps_set (i := 4) nd rfl (.inl rfl) (pe_lst pa_nil))
  (Evl.pss_cut (ps_if (pt_cmpR op_gt (pe_ix (r := rIxT K) ix_tup (pv 2) pe_int (fun _ _ => rfl)) pe_int (nomark _)) (pss_one (ps_set (i := 4) nd rfl (.inl rfl) (pe_lst (pa_cons (pe_tup (pa_cons pe_int (pa_cons pe_int pa_nil))) (pa_cons (Hs.pe_own O__law_half hr (by first | decide | omega) (by rfl) (pa_cons (pe_tup (pa_cons pe_int (pa_cons pe_int pa_nil))) (pa_cons (pv 2) pa_nil))) (pa_cons (Hs.pe_own O__law_low hr (by first | decide | omega) (by rfl) (pa_cons (pe_op op_sub (pe_op op_mulW (pe_ix (r := rIxT K) ix_tup (pv 2) pe_int (fun _ _ => rfl)) (pe_op op_pow pe_int pe_int)) pe_int) (pa_cons (pe_op op_mulW (pe_ix (r := rIxT K) ix_tup (pv 2) pe_int (fun _ _ => rfl)) (pe_op op_pow pe_int pe_int)) pa_nil))) pa_nil)))))) pss_nil)
  (Evl.pss_cut (ps_if (pt_cmpR op_lt (pe_ix (r := rIxT K) ix_tup (pv 3) pe_int (fun _ _ => rfl)) (pe_ix (r := rIxT K) ix_tup (pv 3) pe_int (fun _ _ => rfl)) (nomark _)) (pss_cons (ps_set (i := 5) nd rfl (.inl rfl) (Hs.pe_own O__law_low hr (by first | decide | omega) (by rfl) (pa_cons (pe_op op_add (pe_op op_mulW (pe_ix (r := rIxT K) ix_tup (pv 3) pe_int (fun _ _ => rfl)) (pe_op op_pow pe_int pe_int)) pe_int) (pa_cons (pe_op op_mulW (pe_ix (r := rIxT K) ix_tup (pv 3) pe_int (fun _ _ => rfl)) (pe_op op_pow pe_int pe_int)) pa_nil))))
  (pss_one (ps_set (i := 4) nd rfl (.inl rfl) (pe_op op_cat (pv 4) (pe_lst (pa_cons (pe_tup (pa_cons pe_int (pa_cons pe_int pa_nil))) (pa_cons (Hs.pe_own O__law_half hr (by first | decide | omega) (by rfl) (pa_cons (pe_tup (pa_cons pe_int (pa_cons pe_int pa_nil))) (pa_cons (pv 3) pa_nil))) (pa_cons (pv 5) pa_nil)))))))) pss_nil)
  (pss_one (ps_ret (pe_not (pe_callB (r := rAny K) (cr_any rfl) (by rfl) g_any (by decide +kernel) (pa_cons (pe_lc (own := [("_law_share", 6)]) rfl nd (pi_list (pv 4)) (blkOk_by (N := ["_law_found", "_law_good", "_law_low_here", "_law_high", "_law_some", "_law_more", "_law_share"]) (sc := defScope (Hs.top 40)) (by decide +kernel)) (fun _ _ _ _ _ => (pg_name (i := 6) nd rfl (Or.inl rfl))) (fun _ _ _ _ _ => (pts_one (pt_cmpR op_le (pe_ix (r := rIxT K) ix_tup (pv 6) pe_int (fun _ _ => rfl)) (pe_ix (r := rIxT K) ix_tup (pv 6) pe_int (fun _ _ => rfl)) (nomark _)))) (fun _ _ _ _ _ => (Hs.pe_lam1 (i := 1) LO CC hr (by omega) (pa_cons (pv 6) pa_nil)))) pa_nil))))))))))), ?_⟩
    have hlo := S.lo1
    have hhi := S.hi1
    have l0 := hlo.pos
    have h0 := hhi.pos
    have mid := half_in hlo hhi
    refine q_when (b := false) (et_is (et_or (et_not (et_B (ev_isi (ev_var rfl) (ty_t hp) kb_tuple_tuple))) fun _ => et_or (et_test (ev_op (ev_lenQ (xs := [.ref a, .ref b]) (ev_var rfl) (.inr hp)) ev_c (rv_ne rfl))) fun _ => et_or (et_not (et_B (ev_call (ea_cons (ev_ixt rfl hp rfl) ea_nil) fun H1 e1 Q' q' E' => (⟨a, lo, rfl, ha.ext e1, hlo, q'⟩ : spIsSh K n _ _ _ _)))) fun _ => et_not (et_B (ev_call (ea_cons (ev_ixt rfl hp rfl) ea_nil) fun H1 e1 Q' q' E' => (⟨b, hi, rfl, hb.ext e1, hhi, q'⟩ : spIsSh K n _ _ _ _)))) rfl) (fun z => Bool.noConfusion z) (fun _ H1 e1 => ?_)
    refine ⟨_, rfl, p, _, rfl, ex_t e1 hp, rfl, _, _, rfl, _, _, rfl, rfl, ?_⟩
    dsimp only [gName, List.set]
    have ha1 := ha.ext e1
    have hb1 := hb.ext e1
    have g1 := g.ext e1
    refine q_when (b := false) (et_is (a := decide (cmp3 (hi.1 * lo.2) (lo.1 * hi.2) < 0) || (!G lo || (!G hi || !G (halfS lo hi)))) (et_or (et_test (ev_op (ev_call (ea_cons (ev_var rfl) (ea_cons (ev_var rfl) ea_nil)) fun H2 e2 Q' q' E' => (⟨b, a, hi, lo, rfl, hb1.ext e2, ha1.ext e2, q'⟩ : spOrd K n _ _ _ _)) ev_c rv_I0)) fun _ => et_or (et_not (et_B (ev_good (i := 1) g1 rfl (ev_var (i := 2) rfl) (Pl.mono ha1 (by omega)) hlo))) fun _ => et_or (et_not (et_B (ev_good (i := 1) g1 rfl (ev_var (i := 3) rfl) (Pl.mono hb1 (by omega)) hhi))) fun _ => et_not (et_B (ev_goodU (i := 1) (σ := [some (.ref p), some (.ref f), some (.ref a), some (.ref b), none, none, none]) g1 rfl (s := halfS lo hi) (eu_half (i := 2) (j := 3) rfl rfl ha1 hb1 (by omega) (by omega)) (half_bd (by omega) ha1.2 hb1.2 hm.1) (low_fr mid.1 mid.2.1 mid.2.2)))) ?_) (fun z => Bool.noConfusion z) (fun _ H2 e2 => ?_)
    · have c0 : ¬ cmp3 (hi.1 * lo.2) (lo.1 * hi.2) < 0 := fun z => by
        have := cmp3_neg.mp z
        have := S.le
        omega
      rw [S.glo, S.ghi, S.gmid, decide_eq_false c0]
      rfl
    have ha2 := ha1.ext e2
    have hb2 := hb1.ext e2
    have g2 := g1.ext e2
    refine q_asgLU (us := []) (elu_lst ep_nil (by simp)) fun l0 ps0 H3 nl e3 hl3 T3 => ?_
    have ha3 := ha2.ext e3
    have hb3 := hb2.ext e3
    have g3 := g2.ext e3
    have p0 : ps0 = [] := List.length_eq_zero_iff.mp T3.1
    subst p0
    have e03 := (e1.trans e2).trans e3
    have tk : (10 : Int) ^ Int.toNat 9 = big9 := rfl
    refine q_cut (M := fun σ' H' => Ex H3 H' ∧ ∃ (l : Addr) (ps : List Addr), σ' = [some (.ref p), some (.ref f), some (.ref a), some (.ref b), some (.ref l), none, none] ∧ H' l = some (.lst (ps.map V.ref)) ∧ ps.length ≤ 3 ∧ ∀ p ∈ ps, ∃ s, Pl K m H' p s ∧ Fr1 s ∧ G s = false) ?_ ?_
    · refine s_when (et_test (ev_op (ev_x1 rfl ha3) ev_c rv_I0)) (fun ht H4 e4 => ?_) (fun ht H4 e4 => ⟨e4, l0, [], rfl, e4 _ _ hl3, by simp, fun p hp => by cases hp⟩)
      have h1 : 0 < lo.1 := of_decide_eq_true ht
      have ha4 := ha3.ext e4
      obtain ⟨b1, b2, b3⟩ := S.low h1
      have j1 := (ha.2.1.mul bd_big).sub (bd_one (n := n + 30) (by omega))
      have j2 := ha.2.2.mul bd_big
      have n0 : lo.2 * big9 ≠ 0 := by unfold big9; omega
      refine s_asgLU (us := [prV (0, 1), prV (halfS (0, 1) lo), prV (Hs.low (lo.1 * big9 - 1) (lo.2 * big9))]) (elu_lst (ep_cons (ew_u (eu_tup (ea_cons ev_c (ea_cons ev_c ea_nil)) (by show 2 ≤ 100000; decide))) (ep_cons (ew_u (eu_halfC rfl ha4 ⟨bd_nil, bd_one (by omega)⟩ (by decide) (by omega))) (ep_cons (ew_u (eu_call (ea_cons (ev_op (ev_op (ev_x1 rfl ha4) (ev_op ev_c ev_c (rv_I ⟨by decide, by decide, by decide⟩)) (rv_I (ha.2.1.cmul bd_big (by omega)))) ev_c rv_I0) (ea_cons (ev_op (ev_x2 rfl ha4) (ev_op ev_c ev_c (rv_I ⟨by decide, by decide, by decide⟩)) (rv_I (ha.2.2.cmul bd_big (by omega)))) ea_nil)) fun H5 e5 Q' q' E' => (⟨_, _, rfl, n0, j1.mono (by omega), j2.mono (by omega), q'⟩ : spLow _ _ _ _))) ep_nil))) (by simp)) fun l ps H5 nl5 e5 hl5 T5 => ?_
      have z := beyond3 (K := K) (m := m) (G := G) T5 ⟨⟨bd_nil, bd_one (by omega)⟩, fr0, b1⟩ ⟨half_bd (by omega) ⟨bd_nil, bd_one (by omega)⟩ ha.2 hm.1, low_fr (half_in fr0 hlo).1 (half_in fr0 hlo).2.1 (half_in fr0 hlo).2.2, b2⟩ ⟨low_bd n0 (j1.mono (by omega)) (j2.mono (by omega)), low_fr (by unfold big9; omega) (by unfold big9; omega) (by have := hlo.le; unfold big9; omega), b3⟩
      exact ⟨e4.trans e5, l, ps, rfl, hl5, by omega, z.2⟩
    rintro σ' H4 ⟨e4, l, ps, rfl, hl4, hz4, bey4⟩
    have ha4 := ha3.ext e4
    have hb4 := hb3.ext e4
    have g4 := g3.ext e4
    refine q_cut (M := fun σ' H' => Ex H4 H' ∧ ∃ (l : Addr) (ps : List Addr) (v5 : Option V), σ' = [some (.ref p), some (.ref f), some (.ref a), some (.ref b), some (.ref l), v5, none] ∧ H' l = some (.lst (ps.map V.ref)) ∧ Beyond K m G H' ps) ?_ ?_
    · refine s_when (et_test (ev_op (ev_x1 rfl hb4) (ev_x2 rfl hb4) rv_I0)) (fun ht H5 e5 => ?_) (fun ht H5 e5 => ⟨e5, l, ps, none, rfl, e5 _ _ hl4, by omega, fun p hp => by
        obtain ⟨s, h1, h2⟩ := bey4 p hp
        exact ⟨s, h1.ext e5, h2⟩⟩)
      have h1 : hi.1 < hi.2 := of_decide_eq_true ht
      have hb5 := hb4.ext e5
      obtain ⟨b1, b2, b3⟩ := S.high h1
      have hnn := hhi.nn
      have j1 := (hb.2.1.mul bd_big).add (bd_one (n := n + 30) (by omega))
      have j2 := hb.2.2.mul bd_big
      have n0 : hi.2 * big9 ≠ 0 := by unfold big9; omega
      refine q_asgU (xs := prV (Hs.low (hi.1 * big9 + 1) (hi.2 * big9))) (eu_call (ea_cons (ev_op (ev_op (ev_x1 rfl hb5) (ev_op ev_c ev_c (rv_I ⟨by decide, by decide, by decide⟩)) (rv_I (hb.2.1.cmul bd_big (by omega)))) ev_c rv_I0) (ea_cons (ev_op (ev_x2 rfl hb5) (ev_op ev_c ev_c (rv_I ⟨by decide, by decide, by decide⟩)) (rv_I (hb.2.2.cmul bd_big (by omega)))) ea_nil)) fun H6 e6 Q' q' E' => ⟨_, _, rfl, n0, j1.mono (by omega), j2.mono (by omega), q'⟩) fun t H6 nt e6 ht6 => ?_
      have hb6 := hb5.ext e6
      refine s_ev ⟨_, rfl, ?_⟩
      refine elu_lst (us := [prV (1, 1), prV (halfS (1, 1) hi), prV (Hs.low (hi.1 * big9 + 1) (hi.2 * big9))]) (ep_cons (ew_u (eu_tup (ea_cons ev_c (ea_cons ev_c ea_nil)) (by show 2 ≤ 100000; decide))) (ep_cons (ew_u (eu_halfC rfl hb6 ⟨bd_one (by omega), bd_one (by omega)⟩ (by decide) (by omega))) (ep_cons (ew_var rfl ht6) ep_nil))) (by simp) H6 (Ex.refl H6) _ fun l2 ps2 H7 nl7 e7 hl7 T7 => ?_
      have z := beyond3 (K := K) (m := m) (G := G) T7 ⟨⟨bd_one (by omega), bd_one (by omega)⟩, fr1, b1⟩ ⟨half_bd (by omega) ⟨bd_one (by omega), bd_one (by omega)⟩ hb.2 hm.1, low_fr (half_in fr1 hhi).1 (half_in fr1 hhi).2.1 (half_in fr1 hhi).2.2, b2⟩ ⟨low_bd n0 (j1.mono (by omega)) (j2.mono (by omega)), low_fr (by unfold big9; omega) (by unfold big9; omega) (by unfold big9; omega), b3⟩
      have e47 := (e5.trans e6).trans e7
      refine ⟨l, l2, _, _, rfl, rfl, e47 _ _ hl4, hl7, sz_of (by rw [List.length_map, List.length_map]; omega), fun l3 hl3' => ?_⟩
      have e8 := Ex.new (o := .lst (ps.map V.ref ++ ps2.map V.ref)) hl3'
      refine ⟨e47.trans e8, l3, ps ++ ps2, _, rfl, by rw [upd_same, List.map_append], by rw [List.length_append]; omega, fun p hp => ?_⟩
      rcases List.mem_append.mp hp with hp | hp
      · obtain ⟨s, q1, q2⟩ := bey4 p hp
        exact ⟨s, q1.ext (e47.trans e8), q2⟩
      · obtain ⟨s, q1, q2⟩ := z.2 p hp
        exact ⟨s, q1.ext e8, q2⟩
    rintro σ' H5 ⟨e5, l, ps, v5, rfl, hl5, bey⟩
    have g5 := g4.ext e5
    refine s_ret (v := .bl true) (ev_is (ev_notV (ev_anyF (n := (ps.map V.ref).length) (el_lcL (fun _ => true) (fun _ => V.bl false) (ev_var rfl) (sq_of hl5) (by rw [List.length_map]; have := bey.1; omega) (fun _ => rfl) (fun i x H6 e6 hx => ?_) (fun i x H6 e6 hx _ => ?_)))) rfl) fun H6 e6 => kk _ (((e03.trans e4).trans e5).trans e6)
    · rw [List.getElem?_map] at hx
      obtain ⟨q, hq, rfl⟩ := Option.map_eq_some_iff.mp hx
      obtain ⟨s, q1, q2, q3⟩ := bey.2 q (List.mem_of_getElem? hq)
      exact et_is (et_test (ev_op (ev_x1 rfl (q1.ext e6)) (ev_x2 rfl (q1.ext e6)) rv_I0)) (decide_eq_true q2.le)
    · rw [List.getElem?_map] at hx
      obtain ⟨q, hq, rfl⟩ := Option.map_eq_some_iff.mp hx
      obtain ⟨s, q1, q2, q3⟩ := bey.2 q (List.mem_of_getElem? hq)
      rw [← q3]
      exact ev_good (g5.ext e6) rfl (ev_var rfl) (q1.ext e6) q2
end
end Hs
namespace Hs
/-! ### the piece the other way about -/
def flipS (s : Pt) : Pt := (s.2 - s.1, s.2)
theorem flip_fr {s : Pt} (F : Fr1 s) : Fr1 (flipS s) := by
  have h1 := F.nn
  have h2 := F.le
  have h3 := F.gcd
  have h4 := F.pos
  refine ⟨h4, ?_, ?_, ?_⟩
  · show 0 ≤ s.2 - s.1
    omega
  · show s.2 - s.1 ≤ s.2
    omega
  · show Int.gcd (s.2 - s.1) s.2 = 1
    rw [Int.gcd_comm, show s.2 - s.1 = -s.1 + s.2 by omega, Int.gcd_add_self_right, Int.gcd_neg, Int.gcd_comm]
    exact h3
theorem rows2_swap {w0 w1 : Int} : ∀ {x y : List Int}, (∀ h ∈ rows2 x y, 0 ≤ dot [w0, w1] h) → ∀ h ∈ rows2 y x, 0 ≤ dot [w1, w0] h
  | [], y, _, h, hh => by
    unfold rows2 at hh
    rw [List.zipWith_nil_right] at hh
    cases hh
  | a :: x, [], _, h, hh => by cases hh
  | a :: x, b :: y, H, h, hh => by
    have hh : h ∈ [b, a] :: rows2 y x := hh
    rcases List.mem_cons.mp hh with rfl | hh
    · have := H [a, b] (show [a, b] ∈ [a, b] :: rows2 x y from List.mem_cons_self ..)
      rw [dot2] at this ⊢
      omega
    · exact rows2_swap (x := x) (y := y) (fun k hk => H k (show k ∈ [a, b] :: rows2 x y from List.mem_cons_of_mem _ hk)) h hh
theorem ins_swap {w0 w1 : Int} {x y : List Int} (h : InS 2 (rows2 x y) [w0, w1]) : InS 2 (rows2 y x) [w1, w0] := by
  refine ⟨?_, rows2_swap h.2⟩
  obtain ⟨u, v, e, h0, h1, hk⟩ := wt2 h.1
  cases e
  exact wt2_of h1 h0 (by omega)
theorem EndsOk.flip {x y : List Int} {lo hi : Pt} (E : EndsOk (rows2 x y) lo hi) : EndsOk (rows2 y x) (flipS hi) (flipS lo) := by
  have a1 := E.lo1.pos
  have a2 := E.hi1.pos
  refine ⟨flip_fr E.hi1, flip_fr E.lo1, ?_, fun u v hv hu huv => ?_⟩
  · have := E.le
    show (hi.2 - hi.1) * lo.2 ≤ (lo.2 - lo.1) * hi.2
    have e1 : (hi.2 - hi.1) * lo.2 = hi.2 * lo.2 - hi.1 * lo.2 := Int.sub_mul ..
    have e2 : (lo.2 - lo.1) * hi.2 = hi.2 * lo.2 - lo.1 * hi.2 := by rw [Int.sub_mul, Int.mul_comm lo.2]
    omega
  · have k : InS 2 (rows2 y x) [v - u, u] ↔ InS 2 (rows2 x y) [v - (v - u), v - u] := by
      have e : v - (v - u) = u := by omega
      rw [e]
      exact ⟨ins_swap, ins_swap⟩
    rw [k, E.iff (v - u) v hv (by omega) (by omega)]
    show lo.1 * v ≤ (v - u) * lo.2 ∧ (v - u) * hi.2 ≤ hi.1 * v ↔ (hi.2 - hi.1) * v ≤ u * hi.2 ∧ u * lo.2 ≤ (lo.2 - lo.1) * v
    have e1 : (v - u) * lo.2 = v * lo.2 - u * lo.2 := Int.sub_mul ..
    have e2 : (v - u) * hi.2 = v * hi.2 - u * hi.2 := Int.sub_mul ..
    have e3 : (hi.2 - hi.1) * v = v * hi.2 - hi.1 * v := by rw [Int.sub_mul, Int.mul_comm hi.2]
    have e4 : (lo.2 - lo.1) * v = v * lo.2 - lo.1 * v := by rw [Int.sub_mul, Int.mul_comm lo.2]
    rw [e1, e2, e3, e4]
    constructor <;> rintro ⟨h1, h2⟩ <;> constructor <;> omega
theorem flip_ends {x y : List Int} {lo hi lo' hi' : Pt} (E : EndsOk (rows2 x y) lo hi) (E' : EndsOk (rows2 y x) lo' hi') : lo' = flipS hi ∧ hi' = flipS lo := ends_eq E' E.flip fun _ _ _ _ _ => Iff.rfl
end Hs
namespace Hs
/-! ### the triangle of a place and a line -/
theorem dot3 (w0 w1 w2 x y z : Int) : dot [w0, w1, w2] [x, y, z] = w0 * x + w1 * y + w2 * z := by
  simp [dot]
  omega
theorem wt3 {u : List Int} (h : Wt 3 u) : ∃ w0 w1 w2, u = [w0, w1, w2] ∧ 0 ≤ w0 ∧ 0 ≤ w1 ∧ 0 ≤ w2 ∧ 0 < w0 + w1 + w2 := by
  obtain ⟨l, nn, ps⟩ := h
  obtain ⟨a, b, c, rfl⟩ : ∃ a b c, u = [a, b, c] := match u, l with | [a, b, c], _ => ⟨a, b, c, rfl⟩
  refine ⟨a, b, c, rfl, nn a (by simp), nn b (by simp), nn c (by simp), ?_⟩
  simp [dot, ones] at ps
  omega
theorem wt3_of {w0 w1 w2 : Int} (h0 : 0 ≤ w0) (h1 : 0 ≤ w1) (h2 : 0 ≤ w2) (h : 0 < w0 + w1 + w2) : Wt 3 [w0, w1, w2] := by
  refine ⟨rfl, fun x hx => ?_, ?_⟩
  · have : x = w0 ∨ x = w1 ∨ x = w2 := by simpa using hx
    rcases this with rfl | rfl | rfl <;> assumption
  · simp [dot, ones]
    omega
def unit3 : List (List Int) := [[1, 0, 0], [0, 1, 0], [0, 0, 1]]
theorem start3 : CutOk 3 unit3 [] unit3 := by
  refine ⟨fun p hp => ?_, fun f hf hp u hu => ?_, fun f hf => ?_, fun p hp => .inl hp⟩
  · have e : p = [1, 0, 0] ∨ p = [0, 1, 0] ∨ p = [0, 0, 1] := by simpa [unit3] using hp
    rcases e with rfl | rfl | rfl
    · exact ⟨wt3_of (by decide) (by decide) (by decide) (by decide), fun h hh => by cases hh⟩
    · exact ⟨wt3_of (by decide) (by decide) (by decide) (by decide), fun h hh => by cases hh⟩
    · exact ⟨wt3_of (by decide) (by decide) (by decide) (by decide), fun h hh => by cases hh⟩
  · obtain ⟨x, y, z, rfl⟩ : ∃ x y z, f = [x, y, z] := match f, hf with | [x, y, z], _ => ⟨x, y, z, rfl⟩
    obtain ⟨a, b, c, rfl, a0, b0, c0, s0⟩ := wt3 hu.1
    have h1 := hp [1, 0, 0] (by simp [unit3])
    have h2 := hp [0, 1, 0] (by simp [unit3])
    have h3 := hp [0, 0, 1] (by simp [unit3])
    rw [dot3] at h1 h2 h3 ⊢
    have e1 := Int.mul_nonneg a0 (show 0 ≤ x by omega)
    have e2 := Int.mul_nonneg b0 (show 0 ≤ y by omega)
    have e3 := Int.mul_nonneg c0 (show 0 ≤ z by omega)
    rcases (show 0 < a ∨ 0 < b ∨ 0 < c by omega) with q | q | q
    · have := Int.mul_pos q (show 0 < x by omega)
      omega
    · have := Int.mul_pos q (show 0 < y by omega)
      omega
    · have := Int.mul_pos q (show 0 < z by omega)
      omega
  · have : ∀ a b c : Bool, chg c [a, b, c] ≤ 2 := by decide
    exact this _ _ _
theorem cut3_ok {hs : List (List Int)} (hm : ∀ h ∈ hs, h.length = 3) : CutOk 3 unit3 hs (cutAll unit3 hs) := by
  have := cutAll_ok (hs0 := []) hm start3
  rw [List.nil_append] at this
  exact this
def rows3 : List Int → List Int → List Int → List (List Int)
  | a :: x, b :: y, c :: z => [a, b, c] :: rows3 x y z
  | _, _, _ => []
theorem rows3_mem : ∀ {x y z : List Int} {h : List Int}, h ∈ rows3 x y z → ∃ a b c, h = [a, b, c] ∧ a ∈ x ∧ b ∈ y ∧ c ∈ z
  | a :: x, b :: y, c :: z, h, hh => by
    have hh : h ∈ [a, b, c] :: rows3 x y z := hh
    rcases List.mem_cons.mp hh with rfl | hh
    · exact ⟨a, b, c, rfl, List.mem_cons_self .., List.mem_cons_self .., List.mem_cons_self ..⟩
    · obtain ⟨a', b', c', e, h1, h2, h3⟩ := rows3_mem hh
      exact ⟨a', b', c', e, List.mem_cons_of_mem _ h1, List.mem_cons_of_mem _ h2, List.mem_cons_of_mem _ h3⟩
  | [], _, _, h, hh => by
    unfold rows3 at hh
    cases hh
  | _ :: _, [], _, h, hh => by
    unfold rows3 at hh
    cases hh
  | _ :: _, _ :: _, [], h, hh => by
    unfold rows3 at hh
    cases hh
theorem rows3_len {x y z : List Int} : ∀ h ∈ rows3 x y z, h.length = 3 := fun h hh => by
  obtain ⟨a, b, c, rfl, _⟩ := rows3_mem hh
  rfl
theorem rows3_at : ∀ {x y z : List Int} {k : Nat} {a b c : Int}, x[k]? = some a → y[k]? = some b → z[k]? = some c → (rows3 x y z)[k]? = some [a, b, c]
  | x :: xs, y :: ys, z :: zs, 0, a, b, c, h1, h2, h3 => by
    cases h1; cases h2; cases h3
    rfl
  | x :: xs, y :: ys, z :: zs, k + 1, a, b, c, h1, h2, h3 => rows3_at (x := xs) (y := ys) (z := zs) (k := k) h1 h2 h3
theorem rows3_length : ∀ {x y z : List Int}, x.length = y.length → x.length = z.length → (rows3 x y z).length = x.length
  | [], _, _, _, _ => by
    unfold rows3
    rfl
  | a :: x, b :: y, c :: z, h1, h2 => by
    show (rows3 x y z).length + 1 = x.length + 1
    rw [rows3_length (by simpa using h1) (by simpa using h2)]
theorem rows3_in {x y z : List Int} (h1 : x.length = y.length) (h2 : x.length = z.length) {a : Int} (ha : a ∈ x) : ∃ b c, [a, b, c] ∈ rows3 x y z := by
  obtain ⟨k, hk⟩ := List.getElem?_of_mem ha
  have hl := (List.getElem?_eq_some_iff.mp hk).1
  exact ⟨_, _, List.mem_of_getElem? (rows3_at hk (List.getElem?_eq_getElem (show k < y.length by omega)) (List.getElem?_eq_getElem (show k < z.length by omega)))⟩
theorem ins3_scale {hs : List (List Int)} (hl : ∀ h ∈ hs, h.length = 3) {u0 u1 u2 k : Int} (h : InS 3 hs [u0, u1, u2]) (hk : 0 < k) : InS 3 hs [u0 * k, u1 * k, u2 * k] := by
  obtain ⟨a, b, c, e, a0, b0, c0, s0⟩ := wt3 h.1
  cases e
  refine ⟨wt3_of (Int.mul_nonneg a0 (by omega)) (Int.mul_nonneg b0 (by omega)) (Int.mul_nonneg c0 (by omega)) ?_, fun j hj => ?_⟩
  · have := Int.mul_pos s0 hk
    have e : (u0 + u1 + u2) * k = u0 * k + u1 * k + u2 * k := by grind
    omega
  · obtain ⟨x, y, z, rfl⟩ : ∃ x y z, j = [x, y, z] := match j, hl j hj with | [x, y, z], _ => ⟨x, y, z, rfl⟩
    have q := h.2 _ hj
    rw [dot3] at q ⊢
    have e : u0 * k * x + u1 * k * y + u2 * k * z = (u0 * x + u1 * y + u2 * z) * k := by grind
    rw [e]
    exact Int.mul_nonneg q (by omega)
theorem ins3_comb {hs : List (List Int)} (hl : ∀ h ∈ hs, h.length = 3) {u0 u1 u2 v0 v1 v2 a b : Int} (hu : InS 3 hs [u0, u1, u2]) (hv : InS 3 hs [v0, v1, v2]) (ha : 0 ≤ a) (hb : 0 ≤ b) (hab : 0 < a + b) : InS 3 hs [a * u0 + b * v0, a * u1 + b * v1, a * u2 + b * v2] := by
  obtain ⟨_, _, _, e, a0, b0, c0, s0⟩ := wt3 hu.1
  cases e
  obtain ⟨_, _, _, e, a1, b1, c1, s1⟩ := wt3 hv.1
  cases e
  refine ⟨wt3_of (Int.add_nonneg (Int.mul_nonneg ha a0) (Int.mul_nonneg hb a1)) (Int.add_nonneg (Int.mul_nonneg ha b0) (Int.mul_nonneg hb b1)) (Int.add_nonneg (Int.mul_nonneg ha c0) (Int.mul_nonneg hb c1)) ?_, fun j hj => ?_⟩
  · have e : a * u0 + b * v0 + (a * u1 + b * v1) + (a * u2 + b * v2) = a * (u0 + u1 + u2) + b * (v0 + v1 + v2) := by grind
    rw [e]
    rcases (show 0 < a ∨ 0 < b by omega) with q | q
    · have := Int.mul_pos q s0
      have := Int.mul_nonneg hb (show 0 ≤ v0 + v1 + v2 by omega)
      omega
    · have := Int.mul_pos q s1
      have := Int.mul_nonneg ha (show 0 ≤ u0 + u1 + u2 by omega)
      omega
  · obtain ⟨x, y, z, rfl⟩ : ∃ x y z, j = [x, y, z] := match j, hl j hj with | [x, y, z], _ => ⟨x, y, z, rfl⟩
    have q1 := hu.2 _ hj
    have q2 := hv.2 _ hj
    rw [dot3] at q1 q2 ⊢
    have e : (a * u0 + b * v0) * x + (a * u1 + b * v1) * y + (a * u2 + b * v2) * z = a * (u0 * x + u1 * y + u2 * z) + b * (v0 * x + v1 * y + v2 * z) := by grind
    rw [e]
    exact Int.add_nonneg (Int.mul_nonneg ha q1) (Int.mul_nonneg hb q2)
/-- the way to the share x of y meets what the heights tell -/
def Dk (hs : List (List Int)) (x y : Int) : Prop := ∃ w0 w1 : Int, 0 ≤ w0 ∧ 0 ≤ w1 ∧ 0 < w0 + w1 ∧ InS 3 hs [w0 * y, w1 * (y - x), w1 * x]
theorem dk_of {hs : List (List Int)} (hl : ∀ h ∈ hs, h.length = 3) {u0 u1 u2 x y : Int} (h : InS 3 hs [u0, u1, u2]) (hy : 0 < y) (e : u2 * y = x * (u1 + u2)) : Dk hs x y := by
  obtain ⟨_, _, _, e', a0, b0, c0, s0⟩ := wt3 h.1
  cases e'
  refine ⟨u0, u1 + u2, a0, by omega, by omega, ?_⟩
  have q := ins3_scale hl h hy
  have e1 : (u1 + u2) * (y - x) = u1 * y := by
    have : (u1 + u2) * (y - x) = u1 * y + u2 * y - x * (u1 + u2) := by grind
    omega
  have e2 : (u1 + u2) * x = u2 * y := by rw [e, Int.mul_comm]
  rw [e1, e2]
  exact q
structure EndsP (D : Int → Int → Prop) (lo hi : Pt) : Prop where
  lo1 : Fr1 lo
  hi1 : Fr1 hi
  le : lo.1 * hi.2 ≤ hi.1 * lo.2
  iff : ∀ x y : Int, 0 < y → 0 ≤ x → x ≤ y → (D x y ↔ lo.1 * y ≤ x * lo.2 ∧ x * hi.2 ≤ hi.1 * y)
theorem shr3 (w0 w1 w2 : Int) : shr [w0, w1, w2] = low w2 (w1 + w2) := rfl
theorem last_pos {hs : List (List Int)} {u0 u1 u2 : Int} (h : InS 3 hs [u0, u1, u2]) (hp : ∀ k : Int, 0 < k → ¬ InS 3 hs [k, 0, 0]) : 0 < u1 + u2 := by
  obtain ⟨_, _, _, e', a0, b0, c0, s0⟩ := wt3 h.1
  cases e'
  refine Decidable.byContradiction fun hn => ?_
  have e1 : u1 = 0 := by omega
  have e2 : u2 = 0 := by omega
  subst e1 e2
  exact hp u0 (by omega) h
theorem ends3 {hs pts : List (List Int)} (hl : ∀ h ∈ hs, h.length = 3) (C : CutOk 3 unit3 hs pts) (hn : pts ≠ []) (hp : ∀ k : Int, 0 < k → ¬ InS 3 hs [k, 0, 0]) : EndsP (Dk hs) (leastS (pts.map shr)) (greatS (pts.map shr)) := by
  have sh : ∀ w ∈ pts, ∃ w0 w1 w2 g : Int, w = [w0, w1, w2] ∧ 0 ≤ w1 ∧ 0 ≤ w2 ∧ 0 < w1 + w2 ∧ 0 < g ∧ w2 = g * (shr w).1 ∧ w1 + w2 = g * (shr w).2 := fun w hw => by
    have hS := C.mem w hw
    obtain ⟨w0, w1, w2, rfl, h0, h1, h2, hk⟩ := wt3 hS.1
    have lp := last_pos hS hp
    obtain ⟨_, g, g0, e1, e2⟩ := low_ratio (a := w2) (b := w1 + w2) lp
    exact ⟨w0, w1, w2, g, rfl, h1, h2, lp, g0, e1, e2⟩
  have fr : ∀ x ∈ pts.map shr, Fr1 x := fun x hx => by
    obtain ⟨w, hw, rfl⟩ := List.mem_map.mp hx
    obtain ⟨w0, w1, w2, g, rfl, h1, h2, lp, _⟩ := sh w hw
    rw [shr3]
    exact low_fr lp h2 (by omega)
  have ne : pts.map shr ≠ [] := by simp [hn]
  obtain ⟨l1, l2⟩ := least_ok ne fun x hx => (fr x hx).pos
  obtain ⟨g1, g2⟩ := great_ok ne fun x hx => (fr x hx).pos
  have lof := fr _ l1
  have hif := fr _ g1
  have lohi := g2 _ l1
  obtain ⟨p, pm, pe⟩ := List.mem_map.mp l1
  obtain ⟨q, qm, qe⟩ := List.mem_map.mp g1
  generalize leastS (pts.map shr) = lo at *
  generalize greatS (pts.map shr) = hi at *
  refine ⟨lof, hif, lohi, fun x y hy hx hxy => ⟨fun ⟨w0, w1, h0, h1, hk, hS⟩ => ?_, fun ⟨b1, b2⟩ => ?_⟩⟩
  · have w1p : 0 < w1 := by
      have := last_pos hS hp
      refine Decidable.byContradiction fun hneg => ?_
      have e : w1 = 0 := by omega
      subst e
      simp at this
    constructor
    · have q := C.dual0 (f := [0, -lo.1, lo.2 - lo.1]) rfl (fun p hp' => ?_) hS
      · rw [dot3] at q
        have e : w0 * y * 0 + w1 * (y - x) * -lo.1 + w1 * x * (lo.2 - lo.1) = w1 * (x * lo.2 - lo.1 * y) := by grind
        rw [e] at q
        have := Int.le_of_mul_le_mul_left (show w1 * 0 ≤ w1 * (x * lo.2 - lo.1 * y) by omega) w1p
        omega
      · obtain ⟨v0, v1, v2, g, rfl, _, _, _, g0, e1, e2⟩ := sh p hp'
        have := l2 _ (List.mem_map.mpr ⟨_, hp', rfl⟩)
        rw [dot3]
        have e : v0 * 0 + v1 * -lo.1 + v2 * (lo.2 - lo.1) = v2 * lo.2 - lo.1 * (v1 + v2) := by grind
        have e3 : v2 * lo.2 - lo.1 * (v1 + v2) = g * ((shr [v0, v1, v2]).1 * lo.2 - lo.1 * (shr [v0, v1, v2]).2) := by
          rw [e2]
          conv => lhs; rw [e1]
          grind
        have := Int.mul_nonneg (Int.le_of_lt g0) (show 0 ≤ (shr [v0, v1, v2]).1 * lo.2 - lo.1 * (shr [v0, v1, v2]).2 by omega)
        omega
    · have q := C.dual0 (f := [0, hi.1, hi.1 - hi.2]) rfl (fun p hp' => ?_) hS
      · rw [dot3] at q
        have e : w0 * y * 0 + w1 * (y - x) * hi.1 + w1 * x * (hi.1 - hi.2) = w1 * (hi.1 * y - x * hi.2) := by grind
        rw [e] at q
        have := Int.le_of_mul_le_mul_left (show w1 * 0 ≤ w1 * (hi.1 * y - x * hi.2) by omega) w1p
        omega
      · obtain ⟨v0, v1, v2, g, rfl, _, _, _, g0, e1, e2⟩ := sh p hp'
        have := g2 _ (List.mem_map.mpr ⟨_, hp', rfl⟩)
        rw [dot3]
        have e : v0 * 0 + v1 * hi.1 + v2 * (hi.1 - hi.2) = hi.1 * (v1 + v2) - v2 * hi.2 := by grind
        have e3 : hi.1 * (v1 + v2) - v2 * hi.2 = g * (hi.1 * (shr [v0, v1, v2]).2 - (shr [v0, v1, v2]).1 * hi.2) := by
          rw [e2]
          conv => lhs; rw [e1]
          grind
        have := Int.mul_nonneg (Int.le_of_lt g0) (show 0 ≤ hi.1 * (shr [v0, v1, v2]).2 - (shr [v0, v1, v2]).1 * hi.2 by omega)
        omega
  · obtain ⟨p0, p1, p2, gp, rfl, _, _, pp, gp0, ep1, ep2⟩ := sh p pm
    obtain ⟨q0, q1, q2, gq, rfl, _, _, qp, gq0, eq1, eq2⟩ := sh q qm
    rw [pe] at ep1 ep2
    rw [qe] at eq1 eq2
    have al : 0 ≤ hi.1 * y - x * hi.2 := by omega
    have be : 0 ≤ x * lo.2 - lo.1 * y := by omega
    by_cases hz : hi.1 * y - x * hi.2 = 0 ∧ x * lo.2 - lo.1 * y = 0
    · refine dk_of hl (C.mem _ pm) hy ?_
      rw [ep2]
      conv => lhs; rw [ep1]
      have : gp * lo.1 * y = gp * (lo.1 * y) := Int.mul_assoc ..
      have e2 : x * (gp * lo.2) = gp * (x * lo.2) := by grind
      have e3 : lo.1 * y = x * lo.2 := by omega
      rw [this, e2, e3]
    · have A := Int.mul_nonneg (Int.le_of_lt gq0) al
      have B := Int.mul_nonneg (Int.le_of_lt gp0) be
      have AB : 0 < gq * (hi.1 * y - x * hi.2) + gp * (x * lo.2 - lo.1 * y) := by
        rcases (show 0 < hi.1 * y - x * hi.2 ∨ 0 < x * lo.2 - lo.1 * y by omega) with z | z
        · have := Int.mul_pos gq0 z
          omega
        · have := Int.mul_pos gp0 z
          omega
      refine dk_of hl (ins3_comb hl (C.mem _ pm) (C.mem _ qm) A B AB) hy ?_
      have sum : gq * (hi.1 * y - x * hi.2) * p1 + gp * (x * lo.2 - lo.1 * y) * q1 + (gq * (hi.1 * y - x * hi.2) * p2 + gp * (x * lo.2 - lo.1 * y) * q2) = gq * (hi.1 * y - x * hi.2) * (p1 + p2) + gp * (x * lo.2 - lo.1 * y) * (q1 + q2) := by grind
      rw [sum, ep2, eq2]
      conv => lhs; rw [ep1, eq1]
      clear sum AB A B hz al be b1 b2 ep1 ep2 eq1 eq2
      grind
/-- such ends by two heights -/
def two (lo hi : Pt) : List (List Int) := rows2 [-lo.1, hi.1] [lo.2 - lo.1, hi.1 - hi.2]
theorem ins_two {lo hi : Pt} {x y : Int} (hy : 0 < y) (hx : 0 ≤ x) (hxy : x ≤ y) : InS 2 (two lo hi) [y - x, x] ↔ lo.1 * y ≤ x * lo.2 ∧ x * hi.2 ≤ hi.1 * y := by
  have w : Wt 2 [y - x, x] := wt2_of (by omega) hx (by omega)
  have e1 : (y - x) * -lo.1 + x * (lo.2 - lo.1) = x * lo.2 - lo.1 * y := by grind
  have e2 : (y - x) * hi.1 + x * (hi.1 - hi.2) = hi.1 * y - x * hi.2 := by grind
  unfold InS two
  simp only [rows2, List.zipWith_cons_cons, List.zipWith_nil_left, List.mem_cons, List.not_mem_nil, or_false, forall_eq_or_imp, forall_eq, dot2, e1, e2]
  constructor
  · rintro ⟨_, q1, q2⟩
    exact ⟨by omega, by omega⟩
  · rintro ⟨q1, q2⟩
    exact ⟨w, by omega, by omega⟩
theorem EndsP.ok {D : Int → Int → Prop} {lo hi : Pt} (E : EndsP D lo hi) : EndsOk (two lo hi) lo hi := ⟨E.lo1, E.hi1, E.le, fun _ _ hy hx hxy => ins_two hy hx hxy⟩
theorem EndsP.two {D : Int → Int → Prop} {lo hi : Pt} (E : EndsP D lo hi) {x y : Int} (hy : 0 < y) (hx : 0 ≤ x) (hxy : x ≤ y) : D x y ↔ InS 2 (Hs.two lo hi) [y - x, x] := (E.iff x y hy hx hxy).trans (ins_two hy hx hxy).symm
theorem span_ofP {D : Int → Int → Prop} {lo hi : Pt} {G : Pt → Bool} (E : EndsP D lo hi) (hG : ∀ s, Fr1 s → (G s = true ↔ D s.1 s.2)) : SpanG lo hi G := span_of E.ok fun s hs => (hG s hs).trans (E.two hs.pos hs.nn hs.le)
theorem flip_endsP {D D' : Int → Int → Prop} {lo hi lo' hi' : Pt} (E : EndsP D lo hi) (E' : EndsP D' lo' hi') (h : ∀ x y : Int, 0 < y → 0 ≤ x → x ≤ y → (D' x y ↔ D (y - x) y)) : lo' = flipS hi ∧ hi' = flipS lo :=
  ends_eq E'.ok (EndsOk.flip E.ok) fun x y hy hx hxy => by
    have e : y - (y - x) = x := by omega
    have k := E.two (x := y - x) hy (by omega) (by omega)
    rw [e] at k
    rw [← E'.two hy hx hxy, h x y hy hx hxy, k]
    exact ⟨ins_swap, ins_swap⟩
theorem rows3_swap {w0 w1 w2 : Int} : ∀ {p x y : List Int}, (∀ h ∈ rows3 p x y, 0 ≤ dot [w0, w1, w2] h) → ∀ h ∈ rows3 p y x, 0 ≤ dot [w0, w2, w1] h
  | c :: p, a :: x, b :: y, H, h, hh => by
    have hh : h ∈ [c, b, a] :: rows3 p y x := hh
    rcases List.mem_cons.mp hh with rfl | hh
    · have := H [c, a, b] (show [c, a, b] ∈ [c, a, b] :: rows3 p x y from List.mem_cons_self ..)
      rw [dot3] at this ⊢
      omega
    · exact rows3_swap (p := p) (x := x) (y := y) (fun k hk => H k (show k ∈ [c, a, b] :: rows3 p x y from List.mem_cons_of_mem _ hk)) h hh
  | [], _, _, _, h, hh => by
    unfold rows3 at hh
    cases hh
  | _ :: _, [], _, _, h, hh => by
    obtain ⟨_, _, _, _, _, _, hc⟩ := rows3_mem hh
    cases hc
  | _ :: _, _ :: _, [], _, h, hh => by
    obtain ⟨_, _, _, _, _, hc, _⟩ := rows3_mem hh
    cases hc
theorem ins3_swap {w0 w1 w2 : Int} {p x y : List Int} (h : InS 3 (rows3 p x y) [w0, w1, w2]) : InS 3 (rows3 p y x) [w0, w2, w1] := by
  obtain ⟨_, _, _, e', a0, b0, c0, s0⟩ := wt3 h.1
  cases e'
  exact ⟨wt3_of a0 c0 b0 (by omega), rows3_swap h.2⟩
theorem dk_swap {p x y : List Int} {u v : Int} (h : Dk (rows3 p x y) u v) : Dk (rows3 p y x) (v - u) v := by
  obtain ⟨w0, w1, h0, h1, hk, hS⟩ := h
  have e : v - (v - u) = u := by omega
  refine ⟨w0, w1, h0, h1, hk, ?_⟩
  rw [e]
  exact ins3_swap hS
theorem dk_flip {p x y : List Int} {u v : Int} : Dk (rows3 p y x) u v ↔ Dk (rows3 p x y) (v - u) v := by
  constructor
  · exact dk_swap
  · intro h
    have := dk_swap h
    rw [show v - (v - u) = u by omega] at this
    exact this
/-- what shade tells -/
def shadeV (xs ys zs : List Int) : Option (Pt × Pt) := if ∀ x ∈ xs, 0 ≤ x then some ((0, 1), (1, 1)) else if cutAll unit3 (rows3 xs ys zs) = [] then none else some (leastS ((cutAll unit3 (rows3 xs ys zs)).map shr), greatS ((cutAll unit3 (rows3 xs ys zs)).map shr))
theorem not_in {xs ys zs : List Int} (h1 : xs.length = ys.length) (h2 : xs.length = zs.length) (h : ¬ ∀ x ∈ xs, 0 ≤ x) : ∀ k : Int, 0 < k → ¬ InS 3 (rows3 xs ys zs) [k, 0, 0] := fun k hk hS => by
  refine h fun x hx => ?_
  obtain ⟨b, c, hm⟩ := rows3_in h1 h2 hx
  have q := hS.2 _ hm
  rw [dot3] at q
  have := Int.le_of_mul_le_mul_left (show k * 0 ≤ k * x by omega) hk
  omega
theorem shade_ok {xs ys zs : List Int} (h1 : xs.length = ys.length) (h2 : xs.length = zs.length) : match shadeV xs ys zs with
  | none => ∀ x y, ¬ Dk (rows3 xs ys zs) x y
  | some (lo, hi) => EndsP (Dk (rows3 xs ys zs)) lo hi := by
  unfold shadeV
  by_cases hx : ∀ x ∈ xs, 0 ≤ x
  · rw [if_pos hx]
    refine ⟨fr0, fr1, by decide, fun x y hy hx0 hxy => ⟨fun _ => ⟨?_, ?_⟩, fun _ => ⟨1, 0, by decide, by decide, by decide, wt3_of (by omega) (by omega) (by omega) (by omega), fun h hh => ?_⟩⟩⟩
    · show 0 * y ≤ x * 1
      omega
    · show x * 1 ≤ 1 * y
      omega
    · obtain ⟨a, b, c, rfl, ha, _⟩ := rows3_mem hh
      rw [dot3]
      have := Int.mul_nonneg (show 0 ≤ 1 * y by omega) (hx a ha)
      simp only [Int.zero_mul]
      omega
  · rw [if_neg hx]
    have C := cut3_ok (rows3_len (x := xs) (y := ys) (z := zs))
    by_cases hn : cutAll unit3 (rows3 xs ys zs) = []
    · rw [if_pos hn]
      exact fun x y ⟨w0, w1, _, _, _, hS⟩ => C.none_iff.mp hn ⟨_, hS⟩
    · rw [if_neg hn]
      exact ends3 rows3_len C hn (not_in h1 h2 hx)
end Hs
namespace Hs
/-! ### ways that meet a piece -/
theorem ins3_phts {p a b c d : Pt} {u0 u1 u2 : Int} : InS 3 (rows3 (phts c d p) (phts c d a) (phts c d b)) [u0, u1, u2] ↔ Wt 3 [u0, u1, u2] ∧ OnP ((u0 + u1 + u2) * c.1, (u0 + u1 + u2) * c.2) ((u0 + u1 + u2) * d.1, (u0 + u1 + u2) * d.2) (u0 * p.1 + u1 * a.1 + u2 * b.1, u0 * p.2 + u1 * a.2 + u2 * b.2) := by
  unfold InS
  refine and_congr_right fun hw => ?_
  obtain ⟨_, _, _, e', h0, h1, h2, hk⟩ := wt3 hw
  cases e'
  have cr : cross ((u0 + u1 + u2) * c.1, (u0 + u1 + u2) * c.2) ((u0 + u1 + u2) * d.1, (u0 + u1 + u2) * d.2) (u0 * p.1 + u1 * a.1 + u2 * b.1, u0 * p.2 + u1 * a.2 + u2 * b.2) = (u0 + u1 + u2) * (u0 * cross c d p + u1 * cross c d a + u2 * cross c d b) := by
    unfold cross
    grind
  have crz : cross ((u0 + u1 + u2) * c.1, (u0 + u1 + u2) * c.2) ((u0 + u1 + u2) * d.1, (u0 + u1 + u2) * d.2) (u0 * p.1 + u1 * a.1 + u2 * b.1, u0 * p.2 + u1 * a.2 + u2 * b.2) = 0 ↔ u0 * cross c d p + u1 * cross c d a + u2 * cross c d b = 0 := by
    rw [cr]
    constructor
    · intro q
      rcases Int.mul_eq_zero.mp q with q | q
      · omega
      · exact q
    · intro q
      rw [q, Int.mul_zero]
  unfold OnP
  rw [crz]
  simp only [mn_scale hk, mx_scale hk]
  simp only [rows3, phts, hts, boxOf, List.mem_cons, List.not_mem_nil, or_false, forall_eq_or_imp, forall_eq, dot3]
  generalize mn c.1 d.1 = l
  generalize mx c.1 d.1 = r
  generalize mn c.2 d.2 = lo
  generalize mx c.2 d.2 = hi
  generalize cross c d p = s
  generalize cross c d a = t
  generalize cross c d b = v
  have e1 : u0 * (p.1 - l) + u1 * (a.1 - l) + u2 * (b.1 - l) = (u0 * p.1 + u1 * a.1 + u2 * b.1) - (u0 + u1 + u2) * l := by grind
  have e2 : u0 * (r - p.1) + u1 * (r - a.1) + u2 * (r - b.1) = (u0 + u1 + u2) * r - (u0 * p.1 + u1 * a.1 + u2 * b.1) := by grind
  have e3 : u0 * (p.2 - lo) + u1 * (a.2 - lo) + u2 * (b.2 - lo) = (u0 * p.2 + u1 * a.2 + u2 * b.2) - (u0 + u1 + u2) * lo := by grind
  have e4 : u0 * (hi - p.2) + u1 * (hi - a.2) + u2 * (hi - b.2) = (u0 + u1 + u2) * hi - (u0 * p.2 + u1 * a.2 + u2 * b.2) := by grind
  rw [e1, e2, e3, e4, Int.mul_neg, Int.mul_neg, Int.mul_neg]
  constructor
  · rintro ⟨q1, q2, q3, q4, q5, q6⟩
    exact ⟨by omega, by omega, by omega, by omega, by omega⟩
  · rintro ⟨q1, q3, q4, q5, q6⟩
    exact ⟨by omega, by omega, by omega, by omega, by omega, by omega⟩
theorem dk_cut {p a b c d s : Pt} (F : Fr1 s) : Dk (rows3 (phts c d p) (phts c d a) (phts c d b)) s.1 s.2 ↔ CutP (c.1 * s.2, c.2 * s.2) (d.1 * s.2, d.2 * s.2) (p.1 * s.2, p.2 * s.2) (atS a b s) := by
  have h1 := F.pos
  have h2 := F.nn
  have h3 := F.le
  rw [← cutp_symm, ← meet_iff, ← ins_meet]
  have key : ∀ {w0 w1 : Int}, 0 ≤ w0 → 0 ≤ w1 → 0 < w0 + w1 → (InS 3 (rows3 (phts c d p) (phts c d a) (phts c d b)) [w0 * s.2, w1 * (s.2 - s.1), w1 * s.1] ↔ InS 2 (rows2 (phts (c.1 * s.2, c.2 * s.2) (d.1 * s.2, d.2 * s.2) (p.1 * s.2, p.2 * s.2)) (phts (c.1 * s.2, c.2 * s.2) (d.1 * s.2, d.2 * s.2) (atS a b s))) [w0, w1]) := fun {w0 w1} h0 h1' hk => by
    rw [ins3_phts, ins_phts]
    have es : w0 * s.2 + w1 * (s.2 - s.1) + w1 * s.1 = (w0 + w1) * s.2 := by grind
    have ex : w0 * s.2 * p.1 + w1 * (s.2 - s.1) * a.1 + w1 * s.1 * b.1 = w0 * (p.1 * s.2) + w1 * (a.1 * s.2 + (b.1 - a.1) * s.1) := by grind
    have ey : w0 * s.2 * p.2 + w1 * (s.2 - s.1) * a.2 + w1 * s.1 * b.2 = w0 * (p.2 * s.2) + w1 * (a.2 * s.2 + (b.2 - a.2) * s.1) := by grind
    rw [es, ex, ey]
    have w : Wt 3 [w0 * s.2, w1 * (s.2 - s.1), w1 * s.1] := wt3_of (Int.mul_nonneg h0 (by omega)) (Int.mul_nonneg h1' (by omega)) (Int.mul_nonneg h1' h2) (by rw [es]; exact Int.mul_pos hk h1)
    have w' : Wt 2 [w0, w1] := wt2_of h0 h1' hk
    have k1 : ∀ z : Int, (w0 + w1) * s.2 * z = (w0 + w1) * (z * s.2) := fun z => by grind
    unfold atS
    dsimp only
    rw [k1, k1, k1, k1]
    exact ⟨fun h => ⟨w', h.2⟩, fun h => ⟨w, h.2⟩⟩
  constructor
  · rintro ⟨w0, w1, h0, h1', hk, hS⟩
    exact ⟨_, (key h0 h1' hk).mp hS⟩
  · rintro ⟨u, hu⟩
    obtain ⟨w0, w1, rfl, h0, h1', hk⟩ := wt2 hu.1
    exact ⟨w0, w1, h0, h1', hk, (key h0 h1' hk).mpr hu⟩
theorem onp_comm {c d x : Pt} : OnP d c x ↔ OnP c d x := by
  have e : cross d c x = -cross c d x := by
    unfold cross
    grind
  have m1 : ∀ i j : Int, mn j i = mn i j := fun i j => by
    unfold mn
    split <;> split <;> omega
  have m2 : ∀ i j : Int, mx j i = mx i j := fun i j => by
    unfold mx
    split <;> split <;> omega
  unfold OnP
  rw [e, m1 c.1 d.1, m1 c.2 d.2, m2 c.1 d.1, m2 c.2 d.2]
  constructor
  · rintro ⟨h, r⟩
    exact ⟨by omega, r⟩
  · rintro ⟨h, r⟩
    exact ⟨by omega, r⟩
theorem dk_turn {p a b c d : Pt} {x y : Int} : Dk (rows3 (phts d c p) (phts d c a) (phts d c b)) x y ↔ Dk (rows3 (phts c d p) (phts c d a) (phts c d b)) x y := by
  unfold Dk
  refine exists_congr fun w0 => exists_congr fun w1 => and_congr_right fun _ => and_congr_right fun _ => and_congr_right fun _ => ?_
  rw [ins3_phts, ins3_phts, onp_comm]
end Hs
namespace Hs
open PySem PySem.Spec PyProof.Rows L2 Evl
section
variable {K : PySem.W.Frag} {σ : L2.St} {H : Hp} {tl : TE} {tu tz : TS} {D : Ends}
theorem walk_S3 {a b c : Addr} {xs ys zs : List V} (hl : xs.length = ys.length) (hl2 : xs.length = zs.length) : Walk (ItS3 K a b c) xs.length (fun H => SqT K H a xs ∧ SqT K H b ys ∧ SqT K H c zs) (fun i H v H' => ∃ T x y z, v = .ref T ∧ H T = none ∧ H' = upd H T (.tup [x, y, z]) ∧ xs[i]? = some x ∧ ys[i]? = some y ∧ zs[i]? = some z) := by
  refine ⟨fun i _ hi q => ?_, fun _ q => ⟨xs, ys, zs, q.1, q.2.1, q.2.2, Nat.le_refl _⟩, fun i H v H' _ q y => ?_⟩
  · have h2 : i < ys.length := by omega
    have h3 : i < zs.length := by omega
    exact ⟨xs, ys, zs, xs[i], ys[i], zs[i], q.1, q.2.1, q.2.2, by simp [hi], by simp [h2], by simp [h3]⟩
  · obtain ⟨T, x, z, w, h1, h2, h3, h4, h5, h6⟩ := y
    exact ⟨T, x, z, w, h1, h2, h3, h4 xs q.1, h5 ys q.2.1, h6 zs q.2.2⟩
theorem q_forS3 {r a b c : Addr} {xs ys zs : List V} {i : Nat} (h : Ev tl σ H (.ref r)) (hr : SqL K H r [.ref a, .ref b, .ref c]) (hx : SqT K H a xs) (hy : SqT K H b ys) (hz : SqT K H c zs) (hl : xs.length = ys.length) (hl2 : xs.length = zs.length) (Pv : Nat → L2.St → Hp → Prop) (h0 : ∀ H1, Ex H H1 → Pv 0 σ H1) (hG : ∀ k σ' H', k ≤ xs.length → Pv k σ' H' → Ex H H')
    (hs : ∀ (k : Nat) (x y z : V) (σ' : L2.St) (H' : Hp) (T : Addr), xs[k]? = some x → ys[k]? = some y → zs[k]? = some z → Pv k σ' H' → H' T = none → tu { D with nx := Pv (k + 1), ct := Pv (k + 1), bk := tz D } (σ'.set i (some (.ref T))) (upd H' T (.tup [x, y, z])))
    (hd : ∀ σ' H', Pv xs.length σ' H' → tz D σ' H') : tSeq (tFor (iZipS3 K tl) (gName i) tu) tz D σ H := by
  refine h H (Ex.refl H) _ fun H1 e1 => ⟨r, a, b, c, xs, ys, zs, rfl, ex_l e1 hr, ex_t e1 hx, ex_t e1 hy, ex_t e1 hz, ?_⟩
  refine for_it (D := { D with nx := tz D }) (walk_S3 (K := K) (a := a) (b := b) (c := c) hl hl2) Pv (h0 H1 e1) (fun k σ' H' hk p => ⟨ex_t (hG k σ' H' hk p) hx, ex_t (hG k σ' H' hk p) hy, ex_t (hG k σ' H' hk p) hz⟩) (fun k x σ' H' H'' hk p y => ?_) hd
  obtain ⟨T, u, v, w, rfl, hT, rfl, f1, f2, f3⟩ := y
  exact hs k u v w σ' H' T f1 f2 f3 p hT
end
theorem rows3_bd {m : Nat} {x y z : List Int} (hx : BdL m x) (hy : BdL m y) (hz : BdL m z) : ∀ h ∈ rows3 x y z, BdL m h ∧ h.length = 3 := by
  intro h hh
  obtain ⟨a, b, c, rfl, ha, hb, hc⟩ := rows3_mem hh
  refine ⟨fun u hu => ?_, rfl⟩
  have : u = a ∨ u = b ∨ u = c := by simpa using hu
  rcases this with rfl | rfl | rfl
  · exact hx _ ha
  · exact hy _ hb
  · exact hz _ hc
def spDown3 (K : PySem.W.Frag) (m q : Nat) : Sp := fun vs H Q _ => ∃ (l r a b c : Addr) (ps : List Addr) (ws : List (List Int)) (xs ys zs : List Int), vs = [.ref l, .ref r] ∧ SqL K H l (ps.map V.ref) ∧ WsL K H ps ws ∧ Pts' 3 1 ws ∧ ws.length ≤ 3 ∧ SqL K H r [.ref a, .ref b, .ref c] ∧ Ws K H a xs ∧ Ws K H b ys ∧ Ws K H c zs ∧ xs.length = ys.length ∧ xs.length = zs.length ∧ xs.length ≤ q ∧ BdL m xs ∧ BdL m ys ∧ BdL m zs ∧ RetW K (cutAll ws (rows3 xs ys zs)) H Q
section
variable {P : Program} {w : World} {K : PySem.W.Frag} {mg : Str → Option Value} {base : Heap} {f : Addr} {fd : FuncData} {n m N q : Nat}
theorem ok_down3 (F : FnP K "cut_down" sDown f fd) (O_cut : Own P w K mg base 3 "cut" ["points", "heights"] (spCutX K 3 m N)) (g_zip : mg "zip" = none) (hN : bq m (q - 1) ≤ N) (hq : q ≤ 6) : FnOk P w K mg base CX0 4 f fd ["points", "rows"] (spDown3 K m q) := by
  have nd := scDown.nd
  refine F.ok scDown (fun vs H Q E h => ?_) (fun cdv A outer s H vs Q E hr h => ⟨_, PSs.nox (pss_cons (ps_set (i := 2) nd rfl (.inl rfl) (pv 0))
  (pss_cons (ps_for PassesOwn.never rfl (Hs.pi_zipS3 (by rfl) g_zip (pv 1)) (pg_name (i := 3) nd rfl (.inl rfl)) (pss_one (ps_set (i := 2) nd rfl (.inl rfl) (Hs.pe_own O_cut hr (by first | decide | omega) (by rfl) (pa_cons (pv 2) (pa_cons (pv 3) pa_nil))))))
  (pss_one (ps_ret (pv 2))))), ?_⟩)
  · obtain ⟨l, r, a, b, c, ps, ws, xs, ys, zs, rfl, _⟩ := h
    rfl
  · obtain ⟨l, r, a, b, c, ps, ws, xs, ys, zs, rfl, hl, hw, hp, hz, hr', hx, hy, hz', hxy, hxz, h6, bx, by', bz, ret⟩ := h
    have hrb := rows3_bd bx by' bz
    have hrl := rows3_length hxy hxz
    refine q_asg (ev_var rfl) fun H0 e0 => ?_
    refine q_forS3 (K := K) (ev_var rfl) (ex_l e0 hr') (ex_t e0 hx) (ex_t e0 hy) (ex_t e0 hz') (by simp [hxy]) (by simp [hxz]) (fun i σ' H' => Ex H0 H' ∧ ∃ (t : Addr) (v : Option V) (ps : List Addr), σ' = [some (.ref l), some (.ref r), some (.ref t), v] ∧ SqL K H' t (ps.map V.ref) ∧ WsL K H' ps (cutAll ws ((rows3 xs ys zs).take i))) ?_ ?_ ?_ ?_
    · intro H1 e1
      exact ⟨e1, l, none, ps, rfl, ex_l (e0.trans e1) hl, hw.ext (e0.trans e1)⟩
    · rintro k σ' H' _ ⟨e, _⟩
      exact e
    · rintro k x y z σ' H' T hx' hy' hz' ⟨e, t, v, qs, rfl, ht, hqs⟩ hT
      obtain ⟨i, hi, rfl⟩ := at_int hx'
      obtain ⟨j, hj, rfl⟩ := at_int hy'
      obtain ⟨o, ho, rfl⟩ := at_int hz'
      have eT := Ex.new (o := .tup [V.int i, .int j, .int o]) hT
      have hk : k < xs.length := (List.getElem?_eq_some_iff.mp hi).1
      obtain ⟨p1, p2⟩ := cutAll_pts hp hrb (by decide) k (by omega)
      have hat := rows3_at hi hj ho
      have hm := hrb _ (List.mem_of_getElem? hat)
      have len1 : (cutAll ws ((rows3 xs ys zs).take k)).length ≤ 1000 := by
        have : 2 ^ k ≤ 2 ^ 5 := Nat.pow_le_pow_right (by decide) (by omega)
        have : 2 ^ k * ws.length ≤ 2 ^ 5 * 3 := Nat.mul_le_mul this hz
        omega
      have nk : bq m k ≤ N := Nat.le_trans (bq_mono (by omega)) hN
      refine ⟨_, rfl, _, rfl, bq m k, nk, t, T, qs, _, [i, j, o], rfl, ex_l eT ht, hqs.ext eT, p1, len1, st_of upd_same, rfl, hm.1, fun t2 qs2 H2 e2 ht2 hq2 => ?_⟩
      refine ⟨(e.trans eT).trans e2, t2, some (.ref T), qs2, rfl, ht2, ?_⟩
      rw [List.take_add_one, hat, show (some [i, j, o]).toList = [[i, j, o]] from rfl, cutAll_snoc]
      exact hq2
    · rintro σ' H' ⟨e, t, v, qs, rfl, ht, hqs⟩
      rw [List.length_map, ← hrl, List.take_length] at hqs
      exact s_ret (ev_var rfl) fun H2 e2 => ret t qs H2 ((e0.trans e).trans e2) (ex_l e2 ht) (hqs.ext e2)
end
end Hs
namespace Hs
open PySem PySem.Spec PyProof.Rows L2 Evl
theorem unit3_pts : Pts' 3 1 unit3 := by
  intro w hw
  have : w = [1, 0, 0] ∨ w = [0, 1, 0] ∨ w = [0, 0, 1] := by simpa [unit3] using hw
  have bd : ∀ x : Int, x = 0 ∨ x = 1 → Bd 1 x := fun x hx => by
    rcases hx with rfl | rfl <;> (unfold Bd; decide)
  rcases this with rfl | rfl | rfl
  · exact ⟨wt3_of (by decide) (by decide) (by decide) (by decide), fun x hx => bd x (by have : x = 1 ∨ x = 0 := (by simpa using hx); omega)⟩
  · exact ⟨wt3_of (by decide) (by decide) (by decide) (by decide), fun x hx => bd x (by simp at hx; omega)⟩
  · exact ⟨wt3_of (by decide) (by decide) (by decide) (by decide), fun x hx => bd x (by simp at hx; omega)⟩
def spShade (K : PySem.W.Frag) (m q : Nat) : Sp := fun vs H Q _ => ∃ (r a b c : Addr) (xs ys zs : List Int), vs = [.ref r] ∧ SqL K H r [.ref a, .ref b, .ref c] ∧ Ws K H a xs ∧ Ws K H b ys ∧ Ws K H c zs ∧ xs.length = ys.length ∧ xs.length = zs.length ∧ 0 < xs.length ∧ xs.length ≤ q ∧ BdL m xs ∧ BdL m ys ∧ BdL m zs ∧ RetO K (shadeV xs ys zs) H Q
theorem s_retC {sp : Sp} {dvs : List V} {E : XK} {t1 : TE} {tr : TA} {D : Ends} {σ : L2.St} {H : Hp} (h : t1 σ H fun x H1 => tr σ H1 fun xs H2 => sp ((x :: xs) ++ dvs) H2 D.rt E) : tRet (tCall sp dvs E (tCons t1 tr)) D σ H := h
section
variable {P : Program} {w : World} {K : PySem.W.Frag} {mg : Str → Option Value} {base : Heap} {f : Addr} {fd : FuncData} {n m N q : Nat}
abbrev sShade : Stmt := top 19
theorem scShade : FnScope ["rows"] ["rows"] (defScope sShade) := ⟨rfl, rfl, rfl, by decide +kernel, rfl, by decide +kernel, by decide +kernel⟩
theorem ok_shade (F : FnP K "shade" sShade f fd) (O_cut_down : Own P w K mg base 4 "cut_down" ["points", "rows"] (spDown3 K m q)) (O_end_shares : Own P w K mg base 3 "end_shares" ["points"] (spEnds K (bq m q))) (g_min : mg "min" = none) (hq : q ≤ 6) : FnOk P w K mg base CX0 5 f fd ["rows"] (spShade K m q) := by
  have nd := scShade.nd
  refine F.ok scShade (fun vs H Q E h => ?_) (fun cdv A outer s H vs Q E hr h => ⟨_, PSs.nox (pss_cons (ps_if (pt_cmpR op_ge (pe_callB (r := Hs.rMinT K) (Hs.cr_minT rfl hr) (by rfl) g_min (by decide +kernel) (pa_cons (pe_ix (r := rIxL K) ix_list (pv 0) pe_int (fun _ _ => rfl)) pa_nil)) pe_int (nomark _)) (pss_one (ps_ret (pe_tup (pa_cons (pe_tup (pa_cons pe_int (pa_cons pe_int pa_nil))) (pa_cons (pe_tup (pa_cons pe_int (pa_cons pe_int pa_nil))) pa_nil))))) pss_nil)
  (pss_one (ps_ret (Hs.pe_own O_end_shares hr (by first | decide | omega) (by rfl) (pa_cons (Hs.pe_own O_cut_down hr (by first | decide | omega) (by rfl) (pa_cons (pe_lst (pa_cons (pe_tup (pa_cons pe_int (pa_cons pe_int (pa_cons pe_int pa_nil)))) (pa_cons (pe_tup (pa_cons pe_int (pa_cons pe_int (pa_cons pe_int pa_nil)))) (pa_cons (pe_tup (pa_cons pe_int (pa_cons pe_int (pa_cons pe_int pa_nil)))) pa_nil)))) (pa_cons (pv 0) pa_nil))) pa_nil))))), ?_⟩)
  · obtain ⟨r, a, b, c, xs, ys, zs, rfl, _⟩ := h
    rfl
  · obtain ⟨r, a, b, c, xs, ys, zs, rfl, hR, hx, hy, hz, hxy, hxz, h0, h6, bx, by', bz, ret⟩ := h
    obtain ⟨mi, m1, m2, RCm⟩ := rc_minT (K := K) (H := H) (ns := xs) hx h0
    have hmi : decide (mi ≥ 0) = decide (∀ x ∈ xs, 0 ≤ x) := decide_eq_decide.mpr ⟨fun h x hx => Int.le_trans h (m2 x hx), fun h => h mi m1⟩
    unfold shadeV at ret
    refine q_when (b := decide (∀ x ∈ xs, 0 ≤ x)) (et_is (et_test (ev_op (ev_cb (ea_cons (ev_op (ev_var rfl) ev_c (rv_ixL hR rfl)) ea_nil) RCm) ev_c rv_I0)) hmi) (fun ht H1 e1 => ?_) (fun ht H1 e1 => ?_)
    · rw [if_pos (of_decide_eq_true ht)] at ret
      refine ⟨sz_of (by simp), fun u1 hu1 => ⟨sz_of (by simp), fun u2 hu2 => ⟨sz_of (by simp), fun u3 hu3 => ?_⟩⟩⟩
      have g1 := Ex.new (o := .tup [V.int 0, .int 1]) hu1
      have g2 := Ex.new (o := .tup [V.int 1, .int 1]) hu2
      have g3 := Ex.new (o := .tup [V.ref u1, .ref u2]) hu3
      exact ret u3 u1 u2 _ ((e1.trans g1).trans (g2.trans g3)) upd_same (st_of ((g2.trans g3) _ _ upd_same)) (st_of (g3 _ _ upd_same))
    · have hneg := of_decide_eq_false ht
      rw [if_neg hneg] at ret
      refine ⟨sz_of (by simp), fun t1 ht1 => ⟨sz_of (by simp), fun t2 ht2 => ⟨sz_of (by simp), fun t3 ht3 => ⟨sz_of (by simp), fun tl htl => ?_⟩⟩⟩⟩
      have f1 := Ex.new (o := .tup [V.int 1, .int 0, .int 0]) ht1
      have f2 := Ex.new (o := .tup [V.int 0, .int 1, .int 0]) ht2
      have f3 := Ex.new (o := .tup [V.int 0, .int 0, .int 1]) ht3
      have f4 := Ex.new (o := .lst [V.ref t1, .ref t2, .ref t3]) htl
      have f34 := f3.trans f4
      have f24 := f2.trans f34
      have e4 := e1.trans (f1.trans f24)
      refine ⟨_, rfl, tl, r, a, b, c, [t1, t2, t3], unit3, xs, ys, zs, rfl, sq_of upd_same, ⟨rfl, fun i p w hp hw => ?_⟩, unit3_pts, by decide, ex_l e4 hR, hx.ext e4, hy.ext e4, hz.ext e4, hxy, hxz, h6, bx, by', bz, fun mt ps H2 eM hmt hps => ?_⟩
      · match i, hp, hw with
        | 0, hp, hw => cases hp; cases hw; exact st_of (f24 _ _ upd_same)
        | 1, hp, hw => cases hp; cases hw; exact st_of (f34 _ _ upd_same)
        | 2, hp, hw => cases hp; cases hw; exact st_of (f4 _ _ upd_same)
        | i + 3, hp, hw => cases hp
      · have hrl := rows3_length hxy hxz
        obtain ⟨pts, plen⟩ := cutAll_pts unit3_pts (rows3_bd bx by' bz) (by decide) (rows3 xs ys zs).length (Nat.le_refl _)
        rw [List.take_length] at pts plen
        have C := cut3_ok (rows3_len (x := xs) (y := ys) (z := zs))
        have plen6 : (cutAll unit3 (rows3 xs ys zs)).length ≤ 1000 := by
          have : 2 ^ (rows3 xs ys zs).length ≤ 2 ^ 6 := Nat.pow_le_pow_right (by decide) (by omega)
          have : 2 ^ (rows3 xs ys zs).length * unit3.length ≤ 2 ^ 6 * 3 := Nat.mul_le_mul this (by decide)
          omega
        refine ⟨mt, ps, _, rfl, hmt, hps, fun w hw => ?_, plen6, fun h0 => ?_, fun h0 => ?_⟩
        · have hb : BdL (bq m q) w := fun z hz => ((pts w hw).2 z hz).mono (bq_mono (by omega))
          have hS := C.mem w hw
          obtain ⟨w0, w1, w2, rfl, _⟩ := wt3 hS.1
          exact ⟨by simp, by simp, hb, last_pos hS (not_in hxy hxz hneg)⟩
        · rw [if_pos h0] at ret
          exact fun H3 e3 => ret H3 ((e4.trans eM).trans e3)
        · rw [if_neg h0] at ret
          exact RetP.go ret (e4.trans eM)
theorem ea_star {σ : L2.St} {H : Hp} {te : TE} {t : TA} {p : Addr} {xs ys : List V} (h : Ev te σ H (.ref p)) (hp : SqT K H p xs) (ht : EvA t σ H ys) : EvA (StX.tStar K te t) σ H (xs ++ ys) := fun H1 e Q q =>
  h H1 e _ fun H2 e2 => ⟨p, xs, rfl, .inl (ex_t (e.trans e2) hp), ht H2 (e.trans e2) _ fun H3 e3 => q H3 (e2.trans e3)⟩
end
end Hs
namespace Hs
open PySem PySem.Spec PyProof.Rows L2 Evl
section
variable {P : Program} {w : World} {K : PySem.W.Frag} {mg : Str → Option Value} {base : Heap} {f : Addr} {fd : FuncData} {n m : Nat}
def spPsd (K : PySem.W.Frag) (n : Nat) : Sp := fun vs H Q _ => ∃ (pp tb pl : Addr) (p : Pt) (θ : Pt × Pt) (a b : Pt), vs = [.ref pp, .ref tb, .ref pl] ∧ Pl K n H pp p ∧ Pc K n H tb θ.1 θ.2 ∧ Pc K n H pl a b ∧ RetO K (shadeV (phts θ.1 θ.2 p) (phts θ.1 θ.2 a) (phts θ.1 θ.2 b)) H Q
abbrev sPsd : Stmt := top 20
theorem scPsd : FnScope ["place", "piece", "line", "corner"] ["place", "piece", "line"] (defScope sPsd) := ⟨rfl, rfl, rfl, by decide +kernel, rfl, by decide +kernel, by decide +kernel⟩
theorem ok_psd (F : FnP K "piece_shade" sPsd f fd) (O_shade : Own P w K mg base 5 "shade" ["rows"] (spShade K m 6)) (O_piece_heights : Own P w K mg base 2 "piece_heights" ["piece", "place"] (spPhts K n)) (hm : 2 * n + 3 ≤ m) : FnOk P w K mg base CX0 6 f fd ["place", "piece", "line"] (spPsd K n) := by
  have nd := scPsd.nd
  refine F.ok scPsd (fun vs H Q E h => ?_) (fun cdv A outer s H vs Q E hr h => ⟨_, PSs.nox (pss_one (ps_ret (Hs.pe_own O_shade hr (by first | decide | omega) (by rfl) (pa_cons (pe_lc (own := [("corner", 3)]) rfl nd (pi_tup (pe_tup (pa_cons (pv 0) (StX.pa_star (pv 2) pa_nil)))) (blkOk_by (N := ["place", "piece", "line", "corner"]) (sc := defScope (Hs.top 20)) (by decide +kernel)) (fun _ _ _ _ _ => (pg_name (i := 3) nd rfl (Or.inl rfl))) (fun _ _ _ _ _ => pts_nil) (fun _ _ _ _ _ => (Hs.pe_own O_piece_heights hr (by first | decide | omega) (by rfl) (pa_cons (pv 1) (pa_cons (pv 3) pa_nil))))) pa_nil)))), ?_⟩)
  · obtain ⟨pp, tb, pl, p, θ, a, b, rfl, _⟩ := h
    rfl
  · obtain ⟨pp, tb, pl, p, ⟨c, d⟩, a, b, rfl, hp, hB, ⟨pa, pb, hl, ha, hb⟩, ret⟩ := h
    dsimp only at hB ret
    refine s_retC ?_
    refine elu_lcNT (K := K) (j := 3) (vs := [3]) (tl := tTup (tCons (tVar 0) (StX.tStar K (tVar 2) tNil))) (te := tCall (spPhts K n) [] E0 (tCons (tVar 1) (tCons (tVar 3) tNil))) (σ := [some (.ref pp), some (.ref tb), some (.ref pl), none]) (xs := [.ref pp, .ref pa, .ref pb]) (us := [(phts c d p).map V.int, (phts c d a).map V.int, (phts c d b).map V.int]) (eu_tup (ea_cons (ev_var rfl) (ea_star (xs := [.ref pa, .ref pb]) (ys := []) (ev_var rfl) hl ea_nil)) (by simp)) (by simp) rfl (fun _ => rfl) (fun i x u H1 e1 hx hu => ?_) H (Ex.refl _) _ fun tl ts H1 ntl e1 htl hts' => ?_
    · match i, hx, hu with
      | 0, hx, hu => cases hx; cases hu; exact eu_call (ea_cons (ev_var rfl) (ea_cons (ev_var rfl) ea_nil)) fun H2 e2 Q' q' E' => ⟨tb, pp, c, d, p, rfl, hB.ext (e1.trans e2), hp.ext (e1.trans e2), q'⟩
      | 1, hx, hu => cases hx; cases hu; exact eu_call (ea_cons (ev_var rfl) (ea_cons (ev_var rfl) ea_nil)) fun H2 e2 Q' q' E' => ⟨tb, pa, c, d, a, rfl, hB.ext (e1.trans e2), ha.ext (e1.trans e2), q'⟩
      | 2, hx, hu => cases hx; cases hu; exact eu_call (ea_cons (ev_var rfl) (ea_cons (ev_var rfl) ea_nil)) fun H2 e2 Q' q' E' => ⟨tb, pb, c, d, b, rfl, hB.ext (e1.trans e2), hb.ext (e1.trans e2), q'⟩
      | i + 3, hx, hu => cases hx
    · obtain ⟨t1, t2, t3, rfl⟩ : ∃ t1 t2 t3, ts = [t1, t2, t3] := match ts, hts'.1 with
        | [t1, t2, t3], _ => ⟨t1, t2, t3, rfl⟩
      obtain ⟨qc, qd, _, hc, hd⟩ := hB
      exact ⟨tl, t1, t2, t3, _, _, _, rfl, sq_of htl, st_of (hts'.2 0 t1 _ rfl rfl), st_of (hts'.2 1 t2 _ rfl rfl), st_of (hts'.2 2 t3 _ rfl rfl), rfl, rfl, by show 0 < 6; decide, by show 6 ≤ 6; decide, fun z hz => (phts_bd hc.2 hd.2 hp.2 z hz).mono hm, fun z hz => (phts_bd hc.2 hd.2 ha.2 z hz).mono hm, fun z hz => (phts_bd hc.2 hd.2 hb.2 z hz).mono hm, ret.go' e1⟩
end
end Hs
namespace Hs
open PySem PySem.Spec PyProof.Rows HT
/-! ### t[::-1] of a tuple of two -/
section
variable {prog : Program} {w : World} {A : Around} {E : Value → Shared → Prop} {s : Shared}
theorem sliceApplied_rev2 {sl : Addr} {vl vu vs : Value} {Q : Int × Int × Nat → Shared → Prop} (hs : s.heap.IsSliceOf sl vl vu vs) (pl : IsPart vl none) (pu : IsPart vu none) (ps : IsPart vs (some (-1)))
    (h : Q (1, -1, 2) s) : wpAny (model prog w) A (Builtin.Slice.sliceApplied (.ref sl) (pure ((2 : Nat) : Int))) Q E s := by
  obtain ⟨os, hos, hcs, hds⟩ := id hs
  unfold Builtin.Slice.sliceApplied Builtin.Slice.sliceFields
  refine wpAny_bind (wpAny_bind (wpAny_field hos hds (x := vl) rfl (wpAny_bind (wpAny_field hos hds (x := vu) rfl (wpAny_bind (wpAny_field hos hds (x := vs) rfl (wpAny_pure ?_)))))))
  refine wpAny_bind (slicePart_ ps ?_)
  show wpAny _ _ (if ((-1 : Int) == 0) = true then _ else _) _ _ s
  rw [if_neg (by decide)]
  refine wpAny_bind (slicePart_ pl (wpAny_bind (slicePart_ pu (wpAny_bind (wpAny_pure ?_)))))
  exact wpAny_pure h
theorem getItem_tuple_rev2 {t sl : Addr} {x y vl vu vs : Value} {Q : Value → Shared → Prop} (ht : IsTup s.heap t #[x, y]) (hs : s.heap.IsSliceOf sl vl vu vs) (pl : IsPart vl none) (pu : IsPart vu none) (ps : IsPart vs (some (-1)))
    (h : Q (.ref s.heap.objs.size) { s with heap := s.heap.push { cls := .type "tuple", data := .seq #[y, x] } }) : wpAny (model prog w) A (getItem (.ref t) (.ref sl)) Q E s := by
  have htake : sizeOk (.seq #[y, x]) := by
    show 2 ≤ sizeLine
    decide
  obtain ⟨os, hos, hcs, hds⟩ := id hs
  have hTs : s.TypeIs (.ref sl) "slice" := ⟨os, hos, hcs⟩
  unfold getItem
  try with_reducible refine wpAny_holding ?_
  first | refine wpAny_bind (wpAny_pure ?_) | skip
  refine wpAny_bind (wpAny_sequenceKey ht.typeIs (by decide) ?_)
  refine wpAny_bind (wpAny_callSpecial?_slot (name := Str.ofString "__getitem__") ht.typeIs PyProof.Rows.slot_tuple_getitem
    (wpAny_call_entry PyProof.Rows.slot_tuple_getitem ht.typeIs entry_tuple_getitem ?_ (args_tuple_getitem _ _)))
  show wpAny _ _ (Builtin.Tuple.tupleItemsOf (.ref t) >>= _) _ _ s
  refine wpAny_bind (tupleItemsOf_ ht ?_)
  refine wpAny_bind (wpAny_typeOf hTs ?_)
  rw [if_pos (by decide)]
  refine wpAny_bind (sliceApplied_rev2 hs pl pu ps ?_)
  show wpAny _ _ (if ((1 : Int) == 0 && (-1 : Int) == 1 && (2 : Nat) == 2) = true then _ else _) _ _ s
  rw [if_neg (by decide)]
  first
    | exact wpAny_bind (m := Builtin.Tuple.tupleExact _) (wpAny_newObj_type (wpAny_pure ⟨_, rfl, wpAny_pure h⟩) htake)
    | exact wpAny_bind (m := Builtin.Tuple.tupleExact _) (wpAny_newObj_type (wpAny_bind (wpAny_pure (wpAny_pure ⟨_, rfl, wpAny_pure h⟩))) htake)
    | exact wpAny_bind (wpAny_bind (m := Builtin.Tuple.tupleExact _) (wpAny_newObj_type (wpAny_pure (wpAny_pure ⟨_, rfl, wpAny_pure h⟩)) htake))
    | exact wpAny_bind (wpAny_bind (m := Builtin.Tuple.tupleExact _) (wpAny_newObj_type (wpAny_pure ⟨_, rfl, wpAny_pure h⟩) htake))
end
end Hs
namespace Hs
open PySem PySem.Spec PyProof.Rows L2
def tRevT (K : PySem.W.Frag) (te : TE) : TE := fun σ H Q => te σ H fun x H1 => ∃ a u v, x = .ref a ∧ SqT K H1 a [u, v] ∧ ∀ p, H1 p = none → Q (.ref p) (upd H1 p (.tup [v, u]))
theorem pe_revT {X : Cx} {e : Expr} {te : TE} {k : Nat} {p1 p2 p3 pos : Pos} (he : PE X e te) : PE X (.Subscript e (.Slice none none (some (.UnaryOp .USub (.Constant (.int 1) k p1) p2)) p3) pos) (tRevT X.K te) := by
  refine ⟨fun pins s σ H Q I h => ?_⟩
  refine Subscript_ (thn (he.run pins s σ H _ I h) fun v s1 ⟨x, H1, I1, r1, q1⟩ => ?_)
  obtain ⟨a, uu, vv, ex, hx, q⟩ := q1
  subst ex
  cases r1
  have hst : PO X (some (.UnaryOp .USub (.Constant (.int 1) k p1) p2)) (tPart (tUn (rU fun i => .int (-i)) (tC (.int 1)))) := po_some (pe_un un_neg pe_int)
  refine wpAny_Slice (thn (po_none.run pins s1 σ H1 (fun o H2 => o = none ∧ H2 = H1) I1 ⟨rfl, rfl⟩) fun vl s2 ⟨l, H2, I2, pl, el, e2⟩ => ?_)
  subst el e2
  refine thn (po_none.run pins s2 σ H2 (fun o H3 => o = none ∧ H3 = H2) I2 ⟨rfl, rfl⟩) fun vu s3 ⟨u, H3, I3, pu, eu, e3⟩ => ?_
  subst eu e3
  refine thn (hst.run pins s3 σ H3 (fun o H4 => o = some (-1) ∧ H4 = H3) I3 ⟨1, rfl, -1, rfl, rfl, rfl⟩) fun vs s4 ⟨o, H4, I4, ps, eo, e4⟩ => ?_
  subst eo e4
  have I5 : Inv X pins σ H4 { s4 with heap := s4.heap.push { cls := .type "slice", data := .fields #[vl, vu, vs] } } := I4.kept (t' := s4.toks) fun b ob q => Heap.get?_push_of_some _ q
  obtain ⟨its, r, ht, hz⟩ := I5.tuple hx
  obtain ⟨y1, y2, rfl⟩ : ∃ y1 y2, its = [y1, y2] := by
    have l := r.length
    match its, l with
    | [y1, y2], _ => exact ⟨y1, y2, rfl⟩
  have rr : Vals [vv, uu] [y2, y1] := match r with
    | .cons r1 (.cons r2 .nil) => .cons r2 (.cons r1 .nil)
  show wpAny (model X.prog X.w) X.A (subscriptTail e (.Slice none none (some (.UnaryOp .USub (.Constant (.int 1) k p1) p2)) p3) (.ref a) (.ref s4.heap.objs.size)) (EP X pins σ Q) X.xe { s4 with heap := s4.heap.push { cls := .type "slice", data := .fields #[vl, vu, vs] } }
  refine tail_any (ops := [.ref a, .ref s4.heap.objs.size]) ht.typeIs (PyProof.Rows.slot_tuple_getitem.lookup) ?_ (by with_unfolding_all rfl)
  refine getItem_tuple_rev2 ht (Heap.IsSliceOf.new _ vl vu vs) pl pu ps ?_
  refine ⟨.ref _, _, I5.laid (t' := s4.toks) (o := .tup [vv, uu]) (fun b ob q => Heap.get?_push_of_some _ q) (Nat.le_refl _) ?_, rfl, q _ (I5.hok.fresh (Nat.le_refl _))⟩
  exact ⟨by show 2 ≤ sizeLine; decide, [y2, y1], rr, IsTup.new _ _⟩
end Hs
namespace Hs
open PySem PySem.Spec PyProof.Rows L2 Evl LamX NdefX
/-! ### what is told of shares: none, or a tuple of two -/
def OutO (K : PySem.W.Frag) (o : Option (Pt × Pt)) (v : V) (H : Hp) : Prop := match o with
  | none => v = .non
  | some (x, y) => ∃ p a b, v = .ref p ∧ H p = some (.tup [.ref a, .ref b]) ∧ SqT K H a (prV x) ∧ SqT K H b (prV y)
theorem OutO.ext {K : PySem.W.Frag} {o : Option (Pt × Pt)} {v : V} {H H' : Hp} (h : OutO K o v H) (e : Ex H H') : OutO K o v H' := by
  cases o with
  | none => exact h
  | some z =>
    obtain ⟨p, a, b, h1, h2, h3, h4⟩ := h
    exact ⟨p, a, b, h1, e _ _ h2, ex_t e h3, ex_t e h4⟩
theorem retO_of {K : PySem.W.Frag} {o : Option (Pt × Pt)} {H : Hp} {Q : VK} (h : ∀ v H2, Ex H H2 → OutO K o v H2 → Q v H2) : RetO K o H Q := by
  cases o with
  | none => exact fun H2 e => h .non H2 e rfl
  | some z => exact fun p a b H2 e h1 h2 h3 => h (.ref p) H2 e ⟨p, a, b, rfl, h1, h2, h3⟩
/-- lambda y: g(x1, x2, x3, y) -/
theorem lok_3 {P : Program} {w : World} {K : PySem.W.Frag} {mg : Str → Option Value} {base : Heap} {F : LF} {g x1 x2 x3 y : Str} {sp : Sp} {k : Nat} {ps : List Str} {p0 p1 p2 p3 p5 pos : Pos} (hb : F.body = .Call (.Name g p0) [.Name x1 p1, .Name x2 p2, .Name x3 p3, .Name y p5] [] pos)
    (hbd : ∀ (pm ctv : Value) (us : List Value), us.length = 1 → bindArgs (PySem.W.kla_fn "<lambda>" F.qual F.params F.body F.scope F.cl pm (.ref F.c) ctv) ⟨us, []⟩ = pure ([y].zip us))
    (S : NScope [y, x1, x2, x3] [y] [x1, x2, x3] F.scope) (hg : F.scope.names.lookup g = some .globalImplicit) (hy : F.scope.names.lookup y = some .local) (O : Own P w K mg base k g ps sp) (hd : (g == ("__debug__" : Str)) = false := by decide)
    (hd0 : (y == ("__debug__" : Str)) = false := by decide) (hc0 : (y == ("__classdict__" : Str)) = false := by decide) (hd1 : (x1 == ("__debug__" : Str)) = false := by decide) (hc1 : (x1 == ("__classdict__" : Str)) = false := by decide) (hd2 : (x2 == ("__debug__" : Str)) = false := by decide) (hc2 : (x2 == ("__classdict__" : Str)) = false := by decide)
    (hd3 : (x3 == ("__debug__" : Str)) = false := by decide) (hc3 : (x3 == ("__classdict__" : Str)) = false := by decide) :
    LOk P w K mg base CX0 (k + 1) F [y] [x1, x2, x3] (fun ws vs H Q _ => ∃ v1 v2 v3 q, ws = [some v1, some v2, some v3] ∧ vs = [q] ∧ sp [v1, v2, v3, q] H Q C8.E0) := by
  refine lok_of S (fun pm ctv us hl => hbd pm ctv us hl) (fun ws vs H Q E h => ?_) (fun A outer s H f vs ws Q E hr hl h => ?_)
  · obtain ⟨v1, v2, v3, q, _, rfl, _⟩ := h
    rfl
  · obtain ⟨v1, v2, v3, q, rfl, rfl, hs⟩ := h
    refine ⟨_, by rw [hb]; exact pe_own O hr (Nat.le_refl _) hg (pa_cons (pe_var (i := 1) rfl (.inr (.inr (S.frk _ (by simp)))) hd1 hc1) (pa_cons (pe_var (i := 2) rfl (.inr (.inr (S.frk _ (by simp)))) hd2 hc2) (pa_cons (pe_var (i := 3) rfl (.inr (.inr (S.frk _ (by simp)))) hd3 hc3) (pa_cons (pe_var (i := 0) rfl (.inl hy) hd0 hc0) pa_nil)))) hd, ?_⟩
    exact ⟨_, rfl, _, rfl, _, rfl, _, rfl, hs⟩
theorem sm_tup2 {K : PySem.W.Frag} {H : Hp} {d : Nat} {p q a b c e : Addr} {x y : Pt} (h1 : SqT K H p [.ref a, .ref b]) (h2 : SqT K H q [.ref c, .ref e]) (ha : SqT K H a (prV x)) (hb : SqT K H b (prV y)) (hc : SqT K H c (prV x)) (hd : SqT K H e (prV y)) : Sm K H (d + 3) (.ref p) (.ref q) := .inr ⟨p, q, _, _, rfl, rfl, .inr ⟨h1, h2⟩, rfl, by simp, fun i x' y' hx hy => by
  match i, hx, hy with
  | 0, hx, hy => cases hx; cases hy; exact sm_tupF ha hc rfl (by show 2 ≤ 1000; decide)
  | 1, hx, hy => cases hx; cases hy; exact sm_tupF hb hd rfl (by show 2 ≤ 1000; decide)
  | i + 2, hx, hy => cases hx⟩
theorem fr_bd {n : Nat} {s : Pt} (F : Fr1 s) (h : Bd n s.2) : Bd n s.1 ∧ Bd n s.2 := ⟨by
  have h1 := F.nn
  have h2 := F.le
  unfold Bd at *
  omega, h⟩
def lamQ : Str := ("law" : Str) ++ ".<locals>." ++ "<lambda>"
def spLaw (K : PySem.W.Frag) (T : List (Addr × Str)) : Sp := fun vs H Q _ => ∃ (a : Addr) (ns : List Int), vs = [.ref a] ∧ SqL K H a (ns.map V.int) ∧ ns.length ≤ 63 ∧ LamX.Tabs T H ∧ ∀ H', Q (.bl true) H'
theorem eu_revT {K : PySem.W.Frag} {σ : L2.St} {H : Hp} {te : TE} {a : Addr} {u v : V} (h : Ev te σ H (.ref a)) (hx : SqT K H a [u, v]) : EvU (tRevT K te) σ H [v, u] := fun H1 e Q q =>
  h H1 e _ fun H2 e2 => ⟨a, u, v, rfl, ex_t (e.trans e2) hx, fun p hp => q p _ (fresh_back e2 hp) (e2.trans (Ex.new hp)) upd_same⟩
end Hs
namespace Hs
open PySem PySem.Spec PyProof.Rows L2 Evl
theorem s_retT {ta : TA} {D : Ends} {σ : L2.St} {H : Hp} {us : List (List V)} (h : EvP ta σ H us) (hz : us.length ≤ 1000) (k : ∀ ps t H2, Ex H H2 → Tups H2 ps us → H2 t = some (.tup (ps.map V.ref)) → D.rt (.ref t) H2) : tRet (tTup ta) D σ H :=
  h H (Ex.refl H) _ fun ps H2 e2 h2 => ⟨sz_of (by rw [List.length_map, h2.1]; omega), fun t ht => k ps t _ (e2.trans (Ex.new ht)) (h2.ext (Ex.new ht)) upd_same⟩
section
variable {P : Program} {w : World} {K : PySem.W.Frag} {mg : Str → Option Value} {base : Heap} {f : Addr} {fd : FuncData} {n m : Nat}
def spWayTo (K : PySem.W.Frag) (n m : Nat) : Sp := fun vs H Q _ => ∃ (pp pl q : Addr) (p a b s : Pt), vs = [.ref pp, .ref pl, .ref q] ∧ Pl K n H pp p ∧ Pc K n H pl a b ∧ Pl K m H q s ∧ ∀ (t u v : Addr) (H2 : Hp), Ex H H2 → H2 t = some (.tup [.ref u, .ref v]) → H2 u = some (.tup (prV (p.1 * s.2, p.2 * s.2))) → H2 v = some (.tup (prV (atS a b s))) → Q (.ref t) H2
abbrev sWayTo : Stmt := top 41
theorem scWayTo : FnScope ["_law_place", "_law_line_here", "_law_share"] ["_law_place", "_law_line_here", "_law_share"] (defScope sWayTo) := ⟨rfl, rfl, rfl, by decide +kernel, rfl, by decide +kernel, by decide +kernel⟩
theorem ok_wayTo (F : FnP K "_law_way_to" sWayTo f fd) (O__law_wider : Own P w K mg base 1 "_law_wider" ["_law_place", "_law_many"] (spWider K n m)) (O__law_at : Own P w K mg base 1 "_law_at" ["_law_line_here", "_law_share"] (spAt K n m)) : FnOk P w K mg base CX0 2 f fd ["_law_place", "_law_line_here", "_law_share"] (spWayTo K n m) := by
  have nd := scWayTo.nd
  refine F.ok scWayTo (fun vs H Q E h => ?_) (fun cdv A outer s H vs Q E hr h => ⟨_, PSs.nox (pss_one (ps_ret (pe_tup (pa_cons (Hs.pe_own O__law_wider hr (by first | decide | omega) (by rfl) (pa_cons (pv 0) (pa_cons (pe_ix (r := rIxT K) ix_tup (pv 2) pe_int (fun _ _ => rfl)) pa_nil))) (pa_cons (Hs.pe_own O__law_at hr (by first | decide | omega) (by rfl) (pa_cons (pv 1) (pa_cons (pv 2) pa_nil))) pa_nil))))), ?_⟩)
  · obtain ⟨pp, pl, q, p, a, b, s, rfl, _⟩ := h
    rfl
  · obtain ⟨pp, pl, q, p, a, b, t, rfl, hp, hl, hs, k⟩ := h
    refine s_retT (us := [prV (p.1 * t.2, p.2 * t.2), prV (atS a b t)]) (ep_cons (ew_u (eu_wider (ev_var rfl) (ev_x2 rfl hs) hp hs.2.2)) (ep_cons (ew_u (eu_call (ea_cons (ev_var rfl) (ea_cons (ev_var rfl) ea_nil)) fun H1 e1 Q' q' E' => (⟨pl, q, a, b, t, rfl, hl.ext e1, hs.ext e1, q'⟩ : spAt K n m _ _ _ _))) ep_nil)) (by simp) fun ps r H2 e2 hT hr2 => ?_
    obtain ⟨u, v, rfl⟩ : ∃ u v, ps = [u, v] := match ps, hT.1 with
      | [u, v], _ => ⟨u, v, rfl⟩
    exact k r u v H2 e2 hr2 (hT.2 0 u _ rfl rfl) (hT.2 1 v _ rfl rfl)
end
end Hs
namespace Hs
open PySem PySem.Spec PyProof.Rows L2 Evl
/-! ### lines, shares that are drawn -/
def spOther : Sp := fun vs H Q _ => ∃ (b l g q : Addr) (ns : List Int) (n : Nat) (w x y : Int) (z : Pt), vs = [.ref b, .ref g, .ref q] ∧ BagAt H b l ns n ∧ n < 850000 ∧ H g = some (.tup [.int w, .int x, .int y]) ∧ Grid w x y ∧ H q = some (.tup (prV z)) ∧ Near z ∧
  ∀ (p : Addr) (z' : Pt) (H' : Hp), Near z' → H' p = some (.tup (prV z')) → BagAt H' b l ns (n + 2) → But H H' b → Q (.ref p) H'
def spLine : Sp := fun vs H Q _ => ∃ (b l g : Addr) (ns : List Int) (n : Nat) (w x y : Int), vs = [.ref b, .ref g] ∧ BagAt H b l ns n ∧ n < 800000 ∧ H g = some (.tup [.int w, .int x, .int y]) ∧ Grid w x y ∧
  ∀ (t p q : Addr) (z z' : Pt) (H' : Hp), Near z → Near z' → H' t = some (.tup [.ref p, .ref q]) → H' p = some (.tup (prV z)) → H' q = some (.tup (prV z')) → BagAt H' b l ns (n + 4) → But H H' b → Q (.ref t) H'
def spSomeSh : Sp := fun vs H Q _ => ∃ (b l : Addr) (ns : List Int) (n : Nat), vs = [.ref b] ∧ BagAt H b l ns n ∧ n < 800000 ∧
  ∀ (t p1 p2 p3 p4 : Addr) (s : Pt) (H' : Hp), H' t = some (.lst [.ref p1, .ref p2, .ref p3, .ref p4]) → H' p1 = some (.tup (prV (0, 1))) → H' p2 = some (.tup (prV (1, 1))) → H' p3 = some (.tup (prV (1, 2))) → H' p4 = some (.tup (prV s)) → Fr1 s → Bd 21 s.1 ∧ Bd 21 s.2 → BagAt H' b l ns (n + 3) → But H H' b → Q (.ref t) H'
section
variable {P : Program} {w : World} {K : PySem.W.Frag} {mg : Str → Option Value} {base : Heap} {f : Addr} {fd : FuncData} {n m : Nat}
theorem ev_nePt {σ : L2.St} {H : Hp} {tx ty : TE} {p q : Addr} {x y : Pt} (hx : Ev tx σ H (.ref p)) (hy : Ev ty σ H (.ref q)) (px : SqT K H p (prV x)) (qy : SqT K H q (prV y)) : Ev (tOp (rNeD K) tx ty) σ H (.bl (!decide (x = y))) := fun H1 e Q k =>
  hx H1 e _ fun H2 e2 => hy H2 (e.trans e2) _ fun H3 e3 => ⟨_, _, dp_pt (ex_t ((e.trans e2).trans e3) px), dp_pt (ex_t ((e.trans e2).trans e3) qy), rfl, rfl, by rw [PySem.W.Datum.eqv]; exact k H3 (e2.trans e3)⟩
abbrev sOther : Stmt := top 37
theorem scOther : FnScope ["_law_bag_here", "_law_grid_here", "_law_spot_here", "_law_found"] ["_law_bag_here", "_law_grid_here", "_law_spot_here"] (defScope sOther) := ⟨rfl, rfl, rfl, by decide +kernel, rfl, by decide +kernel, by decide +kernel⟩
theorem ok_other (F : FnP K "_law_other_spot" sOther f fd) (O__law_spot : Own P w K mg base 2 "_law_spot" ["_law_bag_here", "_law_grid_here"] spSpot) : FnOk P w K mg base CX0 3 f fd ["_law_bag_here", "_law_grid_here", "_law_spot_here"] spOther := by
  have nd := scOther.nd
  refine F.ok scOther (fun vs H Q E h => ?_) (fun cdv A outer s H vs Q E hr h => ⟨_, PSs.nox (pss_cons (ps_set (i := 3) nd rfl (.inl rfl) (Hs.pe_own O__law_spot hr (by first | decide | omega) (by rfl) (pa_cons (pv 0) (pa_cons (pv 1) pa_nil))))
  (pss_cons (ps_if (pt_cmpR (op_neD hr.units) (pv 3) (pv 2) (nomark _)) (pss_one (ps_ret (pv 3))) pss_nil)
  (pss_one (ps_ret (pe_tup (pa_cons (pe_op op_add (pe_ix (r := rIxT K) ix_tup (pv 2) pe_int (fun _ _ => rfl)) (pe_ifExp (pt_cmpR op_lt (pe_ix (r := rIxT K) ix_tup (pv 2) pe_int (fun _ _ => rfl)) (pe_op op_pow pe_int pe_int) (nomark _)) pe_int (pe_op op_sub pe_int pe_int))) (pa_cons (pe_ix (r := rIxT K) ix_tup (pv 2) pe_int (fun _ _ => rfl)) pa_nil))))))), ?_⟩)
  · obtain ⟨b, l, g, q, ns, n, w, x, y, z, rfl, _⟩ := h
    rfl
  · obtain ⟨b, l, g, q, ns, n, w, x, y, z, rfl, B, hn, hg, G, hq, cz, k⟩ := h
    refine ⟨_, rfl, _, rfl, b, l, g, ns, n, w, x, y, rfl, B, by omega, hg, G, fun p u H1 cu np hp B1 b1 => ?_⟩
    have hq1 := st_of (K := K) (b1.tup B hq)
    dsimp only [gName, List.set]
    refine q_when (et_test (ev_nePt (ev_var rfl) (ev_var rfl) (st_of hp) hq1)) (fun ht H2 e2 => ?_) (fun ht H2 e2 => ?_)
    · exact s_ret (ev_var rfl) fun H3 e3 => k p u H3 cu ((e2.trans e3) _ _ hp) (B1.ext (e2.trans e3) (Nat.le_refl _)) (b1.ex (e2.trans e3))
    · have hq2 := ex_t e2 hq1
      have t6 : (10 : Int) ^ Int.toNat 6 = 1000000 := by decide
      obtain ⟨c1, c2⟩ := cz
      refine s_retU (xs := prV (z.1 + (if z.1 < 1000000 then 1 else -1), z.2)) (eu_tup (ea_cons (ev_op (ev_ixt rfl hq2 rfl) (ev_if (et_test (ev_op (ev_ixt rfl hq2 rfl) (ev_op ev_c ev_c (rv_I ⟨by decide, by decide, by decide⟩)) rv_I0)) (fun hb => ?_) (fun hb => ?_)) rv_I0) (ea_cons (ev_ixt rfl hq2 rfl) ea_nil)) (by show 2 ≤ 100000; decide)) fun r H3 nr e3 hr3 => k r (z.1 + (if z.1 < 1000000 then 1 else -1), z.2) H3 ⟨?_, c2⟩ hr3 (B1.ext (e2.trans e3) (Nat.le_refl _)) (b1.ex (e2.trans e3))
      · rw [t6] at hb
        rw [if_pos (of_decide_eq_true hb)]
        exact ev_c
      · rw [t6] at hb
        rw [if_neg (of_decide_eq_false hb)]
        exact ev_op ev_c ev_c rv_I0
      · show (z.1 + (if z.1 < 1000000 then 1 else -1)).natAbs ≤ 1000000
        split <;> omega
abbrev sLine : Stmt := top 43
theorem scLine : FnScope ["_law_bag_here", "_law_grid_here", "_law_a"] ["_law_bag_here", "_law_grid_here"] (defScope sLine) := ⟨rfl, rfl, rfl, by decide +kernel, rfl, by decide +kernel, by decide +kernel⟩
theorem ok_line (F : FnP K "_law_line" sLine f fd) (O__law_spot : Own P w K mg base 2 "_law_spot" ["_law_bag_here", "_law_grid_here"] spSpot) (O__law_other_spot : Own P w K mg base 3 "_law_other_spot" ["_law_bag_here", "_law_grid_here", "_law_spot_here"] spOther) : FnOk P w K mg base CX0 4 f fd ["_law_bag_here", "_law_grid_here"] spLine := by
  have nd := scLine.nd
  refine F.ok scLine (fun vs H Q E h => ?_) (fun cdv A outer s H vs Q E hr h => ⟨_, PSs.nox (pss_cons (ps_set (i := 2) nd rfl (.inl rfl) (Hs.pe_own O__law_spot hr (by first | decide | omega) (by rfl) (pa_cons (pv 0) (pa_cons (pv 1) pa_nil))))
  (pss_one (ps_ret (pe_tup (pa_cons (pv 2) (pa_cons (Hs.pe_own O__law_other_spot hr (by first | decide | omega) (by rfl) (pa_cons (pv 0) (pa_cons (pv 1) (pa_cons (pv 2) pa_nil)))) pa_nil)))))), ?_⟩)
  · obtain ⟨b, l, g, ns, n, w, x, y, rfl, _⟩ := h
    rfl
  · obtain ⟨b, l, g, ns, n, w, x, y, rfl, B, hn, hg, G, k⟩ := h
    refine ⟨_, rfl, _, rfl, b, l, g, ns, n, w, x, y, rfl, B, by omega, hg, G, fun p u H1 cu np hp B1 b1 => ?_⟩
    have hg1 := b1.tup B hg
    refine ⟨_, rfl, _, rfl, _, rfl, _, rfl, b, l, g, p, ns, n + 2, w, x, y, u, rfl, B1, by omega, hg1, G, hp, cu, fun q v H2 cv hq B2 b2 => ⟨sz_of (by simp), fun t ht => ?_⟩⟩
    have e3 := Ex.new (o := .tup [V.ref p, .ref q]) ht
    exact k t p q u v _ cu cv upd_same (e3 _ _ (b2.tup B1 hp)) (e3 _ _ hq) (B2.ext e3 (by omega)) ((b1.trans b2).ex e3)
abbrev sSomeSh : Stmt := top 44
theorem scSomeSh : FnScope ["_law_bag_here", "_law_bottom"] ["_law_bag_here"] (defScope sSomeSh) := ⟨rfl, rfl, rfl, by decide +kernel, rfl, by decide +kernel, by decide +kernel⟩
theorem ok_someSh (F : FnP K "_law_some_shares" sSomeSh f fd) (O__law_pull : Own P w K mg base 1 "_law_pull" ["_law_bag_here", "_law_many"] spPull) (O__law_low : Own P w K mg base 2 "_law_low" ["_law_top", "_law_bottom"] spLow) : FnOk P w K mg base CX0 3 f fd ["_law_bag_here"] spSomeSh := by
  have nd := scSomeSh.nd
  refine F.ok scSomeSh (fun vs H Q E h => ?_) (fun cdv A outer s H vs Q E hr h => ⟨_, PSs.nox (pss_cons (ps_set (i := 1) nd rfl (.inl rfl) (pe_op op_add pe_int (Hs.pe_own O__law_pull hr (by first | decide | omega) (by rfl) (pa_cons (pv 0) (pa_cons (pe_ix (r := rIxL K) ix_list (pe_lst (pa_cons pe_int (pa_cons (pe_op op_pow pe_int pe_int) pa_nil))) (Hs.pe_own O__law_pull hr (by first | decide | omega) (by rfl) (pa_cons (pv 0) (pa_cons pe_int pa_nil))) (fun _ _ => rfl)) pa_nil)))))
  (pss_one (ps_ret (pe_lst (pa_cons (pe_tup (pa_cons pe_int (pa_cons pe_int pa_nil))) (pa_cons (pe_tup (pa_cons pe_int (pa_cons pe_int pa_nil))) (pa_cons (pe_tup (pa_cons pe_int (pa_cons pe_int pa_nil))) (pa_cons (Hs.pe_own O__law_low hr (by first | decide | omega) (by rfl) (pa_cons (Hs.pe_own O__law_pull hr (by first | decide | omega) (by rfl) (pa_cons (pv 0) (pa_cons (pe_op op_add (pv 1) pe_int) pa_nil))) (pa_cons (pv 1) pa_nil))) pa_nil)))))))), ?_⟩)
  · obtain ⟨b, l, ns, n, rfl, _⟩ := h
    rfl
  · obtain ⟨b, l, ns, n, rfl, B, hn, k⟩ := h
    refine ⟨_, rfl, _, _, rfl, rfl, ⟨by decide, by decide, by decide⟩, sz_of (by simp), fun tl htl => ⟨_, rfl, b, l, ns, n, 2, rfl, B.ext (Ex.new htl) (Nat.le_refl _), by omega, by decide, by decide, fun u H1 u0 u1 B1 b1 => ?_⟩⟩
    have eT := Ex.new (o := .lst [V.int 12, .int ((10 : Int) ^ Int.toNat 6)]) htl
    have t5 := b1 _ _ (upd_same (H := H) (a := tl) (o := .lst [V.int 12, .int ((10 : Int) ^ Int.toNat 6)])) (bag_ne B htl)
    have t6 : (10 : Int) ^ Int.toNat 6 = 1000000 := by decide
    obtain ⟨mx, hat, m1, m2⟩ : ∃ mx : Int, atI [V.int 12, .int ((10 : Int) ^ Int.toNat 6)] u = some (.int mx) ∧ 1 ≤ mx ∧ mx ≤ 1000000 := by
      obtain rfl | rfl : u = 0 ∨ u = 1 := by omega
      · exact ⟨12, rfl, by decide, by decide⟩
      · exact ⟨_, rfl, by decide, by decide⟩
    refine ⟨tl, _, _, .int mx, rfl, rfl, sq_of t5, hat, b, l, ns, n + 1, mx, rfl, B1, by omega, by omega, by omega, fun v H2 v0 v1 B2 b2 => ⟨_, _, rfl, rfl, ?_⟩⟩
    have bb := ((But.of eT).trans b1).trans b2
    dsimp only [gName, List.set]
    refine ⟨sz_of (by simp), fun t1 ht1 => ⟨sz_of (by simp), fun t2 ht2 => ⟨sz_of (by simp), fun t3 ht3 => ?_⟩⟩⟩
    have f1 := Ex.new (o := .tup [V.int 0, .int 1]) ht1
    have f2 := Ex.new (o := .tup [V.int 1, .int 1]) ht2
    have f3 := Ex.new (o := .tup [V.int 1, .int 2]) ht3
    have f23 := f2.trans f3
    have f13 := f1.trans f23
    have h1 : upd (upd (upd H2 t1 (.tup [V.int 0, .int 1])) t2 (.tup [V.int 1, .int 1])) t3 (.tup [V.int 1, .int 2]) t1 = some (.tup (prV (0, 1))) := f23 _ _ upd_same
    have h2 : upd (upd (upd H2 t1 (.tup [V.int 0, .int 1])) t2 (.tup [V.int 1, .int 1])) t3 (.tup [V.int 1, .int 2]) t2 = some (.tup (prV (1, 1))) := f3 _ _ upd_same
    have h3 : upd (upd (upd H2 t1 (.tup [V.int 0, .int 1])) t2 (.tup [V.int 1, .int 1])) t3 (.tup [V.int 1, .int 2]) t3 = some (.tup (prV (1, 2))) := upd_same
    generalize upd (upd (upd H2 t1 (.tup [V.int 0, .int 1])) t2 (.tup [V.int 1, .int 1])) t3 (.tup [V.int 1, .int 2]) = H3 at *
    have B3 := B2.ext (m := n + 2) f13 (by omega)
    refine ⟨_, rfl, _, rfl, _, _, rfl, rfl, b, l, ns, n + 2, _, rfl, B3, by omega, by omega, by omega, fun x H4 x0 x1 B4 b4 => ?_⟩
    have bdx : Bd 21 x := Nat.lt_of_lt_of_le (show x.natAbs < 2000000 by omega) (by decide)
    have bdb : Bd 21 (1 + v) := Nat.lt_of_lt_of_le (show (1 + v).natAbs < 2000000 by omega) (by decide)
    refine ⟨_, rfl, x, 1 + v, rfl, by omega, bdx.mono (by omega), bdb.mono (by omega), fun t4 H5 nt4 e5 ht4 => ⟨sz_of (by simp), fun tt htt => ?_⟩⟩
    have e6 := Ex.new (o := .lst [V.ref t1, .ref t2, .ref t3, .ref t4]) htt
    have e56 := e5.trans e6
    exact k tt t1 t2 t3 t4 (low x (1 + v)) _ upd_same (e56 _ _ (b4.tup B3 h1)) (e56 _ _ (b4.tup B3 h2)) (e56 _ _ (b4.tup B3 h3)) (e6 _ _ ht4) (low_fr (by omega) x0 (by omega)) (low_bd (by omega) bdx bdb) (B4.ext e56 (by omega)) (((bb.ex f13).trans b4).ex e56)
end
end Hs
namespace Hs
open PySem PySem.Spec PyProof.Rows L2 Evl
abbrev Th := Pt × Pt
def ThAt (H : Hp) (tb : Addr) (θ : Th) : Prop := ∃ c d, H tb = some (.tup [.ref c, .ref d]) ∧ H c = some (.tup (prV θ.1)) ∧ H d = some (.tup (prV θ.2))
theorem ThAt.ex {H H' : Hp} {tb : Addr} {θ : Th} (h : ThAt H tb θ) (e : Ex H H') : ThAt H' tb θ := by
  obtain ⟨c, d, h1, h2, h3⟩ := h
  exact ⟨c, d, e _ _ h1, e _ _ h2, e _ _ h3⟩
theorem ThAt.but {H H' : Hp} {b l tb : Addr} {ns : List Int} {n : Nat} {θ : Th} (h : ThAt H tb θ) (k : But H H' b) (B : BagAt H b l ns n) : ThAt H' tb θ := by
  obtain ⟨c, d, h1, h2, h3⟩ := h
  exact ⟨c, d, k.tup B h1, k.tup B h2, k.tup B h3⟩
def thX (θ : Th) (k : Int) : Th := ((θ.1.1 * k, θ.1.2 * k), (θ.2.1 * k, θ.2.2 * k))
def BdT (n : Nat) (θ : Th) : Prop := (Bd n θ.1.1 ∧ Bd n θ.1.2) ∧ Bd n θ.2.1 ∧ Bd n θ.2.2
end Hs
namespace Hs
open PySem PySem.Spec PyProof.Rows L2 Evl
def In3 (z : Pt) : Prop := z.1.natAbs ≤ 3000001 ∧ z.2.natAbs ≤ 3000001
theorem Near.in3 {z : Pt} (h : Near z) : In3 z := ⟨by have := h.1; omega, by have := h.2; omega⟩
theorem In3.bd {z : Pt} (h : In3 z) : Bd 22 z.1 ∧ Bd 22 z.2 := ⟨Nat.lt_of_le_of_lt h.1 (by decide), Nat.lt_of_le_of_lt h.2 (by decide)⟩
/-- a list of places that stand -/
structure EsAt (H : Hp) (b pe : Addr) (es : List V) : Prop where
  h : H pe = some (.lst es)
  ne : pe ≠ b
  p0 : 0 < es.length
  p1 : es.length ≤ 1000
  all : ∀ x ∈ es, ∃ q z, x = .ref q ∧ H q = some (.tup (prV z)) ∧ Near z
/-- a scene under way -/
structure S8 (H0 H : Hp) (b l : Addr) (ns : List Int) (n : Nat) (g : Addr) (w x y : Int) (pp : Addr) (z : Pt) (pl pa pb : Addr) (za zb : Pt) (tb : Addr) (θ : Th) (pe : Addr) (es : List V) : Prop where
  hg : H g = some (.tup [.int w, .int x, .int y])
  G : Grid w x y
  hp : H pp = some (.tup (prV z))
  cz : In3 z
  hl : H pl = some (.tup [.ref pa, .ref pb])
  ha : H pa = some (.tup (prV za))
  hb : H pb = some (.tup (prV zb))
  ca : In3 za
  cb : In3 zb
  th : ThAt H tb θ
  es : EsAt H b pe es
  B : BagAt H b l ns n
  k : But H0 H b
section
variable {H0 H H' : Hp} {b l : Addr} {ns : List Int} {n n' : Nat} {g : Addr} {w x y : Int} {pp : Addr} {z : Pt} {pl pa pb : Addr} {za zb : Pt} {tb : Addr} {θ : Th} {pe : Addr} {es : List V}
theorem S8.ex (S : S8 H0 H b l ns n g w x y pp z pl pa pb za zb tb θ pe es) (e : Ex H H') : S8 H0 H' b l ns n g w x y pp z pl pa pb za zb tb θ pe es := ⟨e _ _ S.hg, S.G, e _ _ S.hp, S.cz, e _ _ S.hl, e _ _ S.ha, e _ _ S.hb, S.ca, S.cb, S.th.ex e, ⟨e _ _ S.es.h, S.es.ne, S.es.p0, S.es.p1, fun x hx => by
  obtain ⟨q, u, h1, h2, h3⟩ := S.es.all x hx
  exact ⟨q, u, h1, e _ _ h2, h3⟩⟩, S.B.ext e (Nat.le_refl _), S.k.ex e⟩
theorem S8.draw (S : S8 H0 H b l ns n g w x y pp z pl pa pb za zb tb θ pe es) (k : But H H' b) (B : BagAt H' b l ns n') : S8 H0 H' b l ns n' g w x y pp z pl pa pb za zb tb θ pe es := ⟨k.tup S.B S.hg, S.G, k.tup S.B S.hp, S.cz, k.tup S.B S.hl, k.tup S.B S.ha, k.tup S.B S.hb, S.ca, S.cb, S.th.but k S.B, ⟨k _ _ S.es.h S.es.ne, S.es.ne, S.es.p0, S.es.p1, fun x hx => by
  obtain ⟨q, u, h1, h2, h3⟩ := S.es.all x hx
  exact ⟨q, u, h1, k.tup S.B h2, h3⟩⟩, B, S.k.trans k⟩
theorem S8.up (S : S8 H0 H b l ns n g w x y pp z pl pa pb za zb tb θ pe es) (h : n ≤ n') : S8 H0 H b l ns n' g w x y pp z pl pa pb za zb tb θ pe es := { S with B := S.B.ext (Ex.refl _) h }
end
def spScene (K : PySem.W.Frag) : Sp := fun vs H Q _ => ∃ (b l : Addr) (ns : List Int) (n : Nat), vs = [.ref b] ∧ BagAt H b l ns n ∧ n < 700000 ∧
  ∀ (t pp tb pl pa pb : Addr) (z za zb : Pt) (θ : Th) (H' : Hp), H' t = some (.tup [.ref pp, .ref tb, .ref pl]) → H' pp = some (.tup (prV z)) → (Bd 32 z.1 ∧ Bd 32 z.2) → H' pl = some (.tup [.ref pa, .ref pb]) → H' pa = some (.tup (prV za)) → (Bd 32 za.1 ∧ Bd 32 za.2) → H' pb = some (.tup (prV zb)) → (Bd 32 zb.1 ∧ Bd 32 zb.2) → ThAt H' tb θ → BdT 32 θ → BagAt H' b l ns (n + 40) → But H H' b → Q (.ref t) H'
end Hs
namespace Hs
open PySem PySem.Spec PyProof.Rows L2 Evl
theorem s_retTup' {ta : TA} {D : Ends} {σ : L2.St} {H : Hp} (h : ta σ H fun xs H1 => xs.length ≤ sizeLine ∧ ∀ p, H1 p = none → D.rt (.ref p) (upd H1 p (.tup xs))) : tRet (tTup ta) D σ H := h
theorem cons_in {t1 : TE} {tr : TA} {σ : L2.St} {H : Hp} {Q : List V → Hp → Prop} (h : t1 σ H fun x H1 => tr σ H1 fun xs H2 => Q (x :: xs) H2) : tCons t1 tr σ H Q := h
theorem tup_mk {ta : TA} {σ : L2.St} {H : Hp} {Q : VK} (h : ta σ H fun xs H1 => xs.length ≤ sizeLine ∧ ∀ p, H1 p = none → Q (.ref p) (upd H1 p (.tup xs))) : tTup ta σ H Q := h
theorem s_retT3 {K : PySem.W.Frag} {D : Ends} {σ : L2.St} {H : Hp} {pp pl pa pb tc : Addr} {z za zb : Pt} {many : Int} {E : XK} (pw : Pl K 22 H pp z) (hl : H pl = some (.tup [.ref pa, .ref pb])) (wa : Pl K 22 H pa za) (wb : Pl K 22 H pb zb) (mb : Bd 10 many) (g2 : σ[2]? = some (some (.ref pl))) (g3 : σ[3]? = some (some (.ref pp))) (g4 : σ[4]? = some (some (.ref tc))) (g8 : σ[8]? = some (some (.int many)))
    (k : ∀ t qp ql qa qb H2, Ex H H2 → H2 t = some (.tup [.ref qp, .ref tc, .ref ql]) → H2 qp = some (.tup (prV (z.1 * many, z.2 * many))) → H2 ql = some (.tup [.ref qa, .ref qb]) → H2 qa = some (.tup (prV (za.1 * many, za.2 * many))) → H2 qb = some (.tup (prV (zb.1 * many, zb.2 * many))) → D.rt (.ref t) H2) :
    tRet (tTup (tCons (tCall (spWider K 22 10) [] E (tCons (tVar 3) (tCons (tVar 8) tNil))) (tCons (tVar 4) (tCons (tTup (tCons (tCall (spWider K 22 10) [] E (tCons (tOp (rIxT K) (tVar 2) (tC (.int 0))) (tCons (tVar 8) tNil))) (tCons (tCall (spWider K 22 10) [] E (tCons (tOp (rIxT K) (tVar 2) (tC (.int 1))) (tCons (tVar 8) tNil))) tNil))) tNil)))) D σ H := by
  refine s_retTup' (cons_in ?_)
  refine (eu_wider (ev_var g3) (ev_var g8) pw mb) H (Ex.refl _) _ fun qp H1 n1 e1 h1 => ?_
  refine ⟨_, g4, ?_⟩
  refine cons_in (tup_mk (cons_in ?_))
  refine (eu_wider (ev_ixt g2 (st_of (e1 _ _ hl)) rfl) (ev_var g8) (wa.ext e1) mb) H1 (Ex.refl _) _ fun qa H2 n2 e2 h2 => ?_
  have e12 := e1.trans e2
  refine cons_in ?_
  refine (eu_wider (ev_ixt g2 (st_of (e12 _ _ hl)) rfl) (ev_var g8) (wb.ext e12) mb) H2 (Ex.refl _) _ fun qb H3 n3 e3 h3 => ?_
  refine ⟨sz_of (by simp), fun ql hql => ⟨sz_of (by simp), fun t ht => ?_⟩⟩
  have e4 := Ex.new (o := .tup [V.ref qa, .ref qb]) hql
  have e5 := Ex.new (o := .tup [V.ref qp, .ref tc, .ref ql]) ht
  have e45 := e4.trans e5
  exact k t qp ql qa qb _ ((e12.trans e3).trans e45) upd_same ((e2.trans (e3.trans e45)) _ _ h1) (e5 _ _ upd_same) ((e3.trans e45) _ _ h2) (e45 _ _ h3)
end Hs
namespace Hs
open PySem PySem.Spec PyProof.Rows L2 Evl
section
variable {P : Program} {w : World} {K : PySem.W.Frag} {mg : Str → Option Value} {base : Heap} {f : Addr} {fd : FuncData} {n m : Nat}
def spDark (K : PySem.W.Frag) (n m : Nat) : Sp := fun vs H Q _ => ∃ (pp tb pl q : Addr) (p : Pt) (θ : Pt × Pt) (a b s : Pt), vs = [.ref pp, .ref tb, .ref pl, .ref q] ∧ Pl K n H pp p ∧ Pc K n H tb θ.1 θ.2 ∧ Pc K n H pl a b ∧ Pl K m H q s ∧ RetV (.bl (decide (CutP (θ.1.1 * s.2, θ.1.2 * s.2) (θ.2.1 * s.2, θ.2.2 * s.2) (p.1 * s.2, p.2 * s.2) (atS a b s)))) H Q
abbrev sDark : Stmt := top 42
theorem scDark : FnScope ["_law_place", "_law_piece", "_law_line_here", "_law_share", "_law_a", "_law_b"] ["_law_place", "_law_piece", "_law_line_here", "_law_share"] (defScope sDark) := ⟨rfl, rfl, rfl, by decide +kernel, rfl, by decide +kernel, by decide +kernel⟩
theorem ok_dark (F : FnP K "_law_piece_dark" sDark f fd) (O__law_way_to : Own P w K mg base 2 "_law_way_to" ["_law_place", "_law_line_here", "_law_share"] (spWayTo K n m)) (O__law_wider : Own P w K mg base 1 "_law_wider" ["_law_place", "_law_many"] (spWider K n m)) (O__law_cut : Own P w K mg base 3 "_law_cut" ["_law_a", "_law_b", "_law_c", "_law_d"] (spCutP K (n + m + 2))) (hn : n + m ≤ 10000) : FnOk P w K mg base CX0 5 f fd ["_law_place", "_law_piece", "_law_line_here", "_law_share"] (spDark K n m) := by
  have nd := scDark.nd
  refine F.ok scDark (fun vs H Q E h => ?_) (fun cdv A outer s H vs Q E hr h => ⟨_, PSs.nox (pss_cons (ps_asg (Hs.pe_own O__law_way_to hr (by first | decide | omega) (by rfl) (pa_cons (pv 0) (pa_cons (pv 2) (pa_cons (pv 3) pa_nil)))) (pg_tup rfl (pgs_cons (pg_name (i := 4) nd rfl (.inl rfl)) (pgs_cons (pg_name (i := 5) nd rfl (.inl rfl)) pgs_nil))))
  (pss_one (ps_ret (Hs.pe_own O__law_cut hr (by first | decide | omega) (by rfl) (pa_cons (Hs.pe_own O__law_wider hr (by first | decide | omega) (by rfl) (pa_cons (pe_ix (r := rIxT K) ix_tup (pv 1) pe_int (fun _ _ => rfl)) (pa_cons (pe_ix (r := rIxT K) ix_tup (pv 3) pe_int (fun _ _ => rfl)) pa_nil))) (pa_cons (Hs.pe_own O__law_wider hr (by first | decide | omega) (by rfl) (pa_cons (pe_ix (r := rIxT K) ix_tup (pv 1) pe_int (fun _ _ => rfl)) (pa_cons (pe_ix (r := rIxT K) ix_tup (pv 3) pe_int (fun _ _ => rfl)) pa_nil))) (pa_cons (pv 4) (pa_cons (pv 5) pa_nil)))))))), ?_⟩)
  · obtain ⟨pp, tb, pl, q, p, θ, a, b, s, rfl, _⟩ := h
    rfl
  · obtain ⟨pp, tb, pl, q, p, ⟨c, d⟩, a, b, t, rfl, hp, ⟨qc, qd, hB, hc, hd⟩, hl, hs, k⟩ := h
    dsimp only at hc hd k
    refine ⟨_, rfl, _, rfl, _, rfl, pp, pl, q, p, a, b, t, rfl, hp, hl, hs, fun r u v H1 e1 hr1 hu hv => ⟨r, _, rfl, st_of hr1, rfl, _, _, rfl, _, _, rfl, rfl, ?_⟩⟩
    dsimp only [gName, List.set]
    refine s_retC ?_
    refine (eu_wider (K := K) (σ := [some (.ref pp), some (.ref tb), some (.ref pl), some (.ref q), some (.ref u), some (.ref v)]) (ev_ixt rfl (ex_t e1 hB) rfl) (ev_x2 rfl (hs.ext e1)) (hc.ext e1) hs.2.2) H1 (Ex.refl _) _ fun r1 H2 n1 e2 h1 => ?_
    have e12 := e1.trans e2
    refine cons_in ?_
    refine (eu_wider (K := K) (σ := [some (.ref pp), some (.ref tb), some (.ref pl), some (.ref q), some (.ref u), some (.ref v)]) (ev_ixt rfl (ex_t e12 hB) rfl) (ev_x2 rfl (hs.ext e12)) (hd.ext e12) hs.2.2) H2 (Ex.refl _) _ fun r2 H3 n2 e3 h2 => ?_
    obtain ⟨pa, pb, _, ha, hb⟩ := hl
    have wd : ∀ {x : Pt}, (Bd n x.1 ∧ Bd n x.2) → Bd (n + m + 2) (x.1 * t.2) ∧ Bd (n + m + 2) (x.2 * t.2) := fun hx => ⟨(hx.1.mul hs.2.2).mono (by omega), (hx.2.mul hs.2.2).mono (by omega)⟩
    exact ⟨_, rfl, _, rfl, r1, r2, u, v, _, _, _, _, rfl, ⟨st_of (e3 _ _ h1), wd hc.2⟩, ⟨st_of h2, wd hd.2⟩, ⟨st_of ((e2.trans e3) _ _ hu), wd hp.2⟩, ⟨st_of ((e2.trans e3) _ _ hv), atS_bd ha.2 hb.2 hs.2⟩, fun H6 e6 => k _ ((e12.trans e3).trans e6)⟩
end
end Hs
namespace Hs
open PySem PySem.Spec PyProof.Rows L2 Evl
section
variable {P : Program} {w : World} {K : PySem.W.Frag} {mg : Str → Option Value} {base : Heap} {f : Addr} {fd : FuncData} {n m : Nat}
/-- t[i][j] -/
theorem ev_ix2 {σ : L2.St} {H : Hp} {p q : Addr} {xs ys : List V} {i j : Int} {v : V} {k : Nat} (hs : σ[k]? = some (some (.ref p))) (hp : SqT K H p xs) (hi : atI xs i = some (.ref q)) (hq : SqT K H q ys) (hj : atI ys j = some v) : Ev (tOp (rIxT K) (tOp (rIxT K) (tVar k) (tC (.int i))) (tC (.int j))) σ H v :=
  ev_op (ev_ixt hs hp hi) ev_c (rv_ixT hq hj)
abbrev sScene : Stmt := top 45
theorem scScene : FnScope ["_law_bag_here", "_law_grid_here", "_law_line_here", "_law_place", "_law_thing", "_law_ends", "_law_way", "_law_corner", "_law_many"] ["_law_bag_here"] (defScope sScene) := ⟨rfl, rfl, rfl, by decide +kernel, rfl, by decide +kernel, by decide +kernel⟩
set_option maxHeartbeats 4000000 in
theorem ok_scene (F : FnP K "_law_scene" sScene f fd) (O__law_pull : Own P w K mg base 1 "_law_pull" ["_law_bag_here", "_law_many"] spPull) (O__law_grid : Own P w K mg base 2 "_law_grid" ["_law_bag_here"] spGrid) (O__law_spot : Own P w K mg base 2 "_law_spot" ["_law_bag_here", "_law_grid_here"] spSpot) (O__law_line : Own P w K mg base 4 "_law_line" ["_law_bag_here", "_law_grid_here"] spLine) (O__law_other_spot : Own P w K mg base 3 "_law_other_spot" ["_law_bag_here", "_law_grid_here", "_law_spot_here"] spOther) (O__law_one : Own P w K mg base 2 "_law_one" ["_law_bag_here", "_law_some"] (spOne K)) (O__law_wider : Own P w K mg base 1 "_law_wider" ["_law_place", "_law_many"] (spWider K 22 10))
    (g_tuple : mg "tuple" = none) (g_int : mg "int" = none) (g_list : mg "list" = none) : FnOk P w K mg base CX0 5 f fd ["_law_bag_here"] (spScene K) := by
  have nd := scScene.nd
  refine F.ok scScene (fun vs H Q E h => ?_) (fun cdv A outer s H vs Q E hr h => ⟨_, PSs.nox (pss_cons (ps_set (i := 1) nd rfl (.inl rfl) (Hs.pe_own O__law_grid hr (by first | decide | omega) (by rfl) (pa_cons (pv 0) pa_nil)))
  (pss_cons (ps_set (i := 2) nd rfl (.inl rfl) (Hs.pe_own O__law_line hr (by first | decide | omega) (by rfl) (pa_cons (pv 0) (pa_cons (pv 1) pa_nil))))
  (pss_cons (ps_set (i := 3) nd rfl (.inl rfl) (Hs.pe_own O__law_spot hr (by first | decide | omega) (by rfl) (pa_cons (pv 0) (pa_cons (pv 1) pa_nil))))
  (pss_cons (ps_set (i := 4) nd rfl (.inl rfl) (pe_tup (pa_cons (Hs.pe_own O__law_spot hr (by first | decide | omega) (by rfl) (pa_cons (pv 0) (pa_cons (pv 1) pa_nil))) (pa_cons (Hs.pe_own O__law_spot hr (by first | decide | omega) (by rfl) (pa_cons (pv 0) (pa_cons (pv 1) pa_nil))) pa_nil))))
  (pss_cons (ps_set (i := 5) nd rfl (.inl rfl) (pe_callTy (r := Evl.rListS K) call_list_of (by rfl) g_list (by decide +kernel) (pa_cons (pv 4) pa_nil)))
  (pss_cons (ps_set (i := 6) nd rfl (.inl rfl) (Hs.pe_own O__law_pull hr (by first | decide | omega) (by rfl) (pa_cons (pv 0) (pa_cons pe_int pa_nil))))
  (Evl.pss_cut (ps_if (pt_cmpR op_eq (pv 6) pe_int (nomark _)) (pss_one (ps_set (i := 3) nd rfl (.inl rfl) (Hs.pe_own O__law_one hr (by first | decide | omega) (by rfl) (pa_cons (pv 0) (pa_cons (pv 5) pa_nil))))) pss_nil)
  (Evl.pss_cut (ps_if (pt_cmpR op_eq (pv 6) pe_int (nomark _)) (pss_one (ps_set (i := 3) nd rfl (.inl rfl) (pe_tup (pa_cons (pe_op op_sub (pe_op op_mulW pe_int (pe_ix (r := rIxT K) ix_tup (pe_ix (r := rIxT K) ix_tup (pv 2) pe_int (fun _ _ => rfl)) pe_int (fun _ _ => rfl))) (pe_ix (r := rIxT K) ix_tup (pe_ix (r := rIxT K) ix_tup (pv 2) pe_int (fun _ _ => rfl)) pe_int (fun _ _ => rfl))) (pa_cons (pe_op op_sub (pe_op op_mulW pe_int (pe_ix (r := rIxT K) ix_tup (pe_ix (r := rIxT K) ix_tup (pv 2) pe_int (fun _ _ => rfl)) pe_int (fun _ _ => rfl))) (pe_ix (r := rIxT K) ix_tup (pe_ix (r := rIxT K) ix_tup (pv 2) pe_int (fun _ _ => rfl)) pe_int (fun _ _ => rfl))) pa_nil))))) pss_nil)
  (Evl.pss_cut (ps_if (pt_cmpR op_eq (pv 6) pe_int (nomark _)) (pss_cons (ps_set (i := 7) nd rfl (.inl rfl) (Hs.pe_own O__law_one hr (by first | decide | omega) (by rfl) (pa_cons (pv 0) (pa_cons (pv 5) pa_nil))))
  (pss_one (ps_set (i := 2) nd rfl (.inl rfl) (pe_tup (pa_cons (pv 7) (pa_cons (Hs.pe_own O__law_other_spot hr (by first | decide | omega) (by rfl) (pa_cons (pv 0) (pa_cons (pv 1) (pa_cons (pv 7) pa_nil)))) pa_nil)))))) pss_nil)
  (Evl.pss_cut (ps_if (pt_cmpR op_eq (pv 6) pe_int (nomark _)) (pss_cons (ps_set (i := 7) nd rfl (.inl rfl) (Hs.pe_own O__law_one hr (by first | decide | omega) (by rfl) (pa_cons (pv 0) (pa_cons (pv 5) pa_nil))))
  (pss_cons (ps_set (i := 2) nd rfl (.inl rfl) (pe_tup (pa_cons (pv 3) (pa_cons (pe_tup (pa_cons (pe_op op_sub (pe_op op_mulW pe_int (pe_ix (r := rIxT K) ix_tup (pv 7) pe_int (fun _ _ => rfl))) (pe_ix (r := rIxT K) ix_tup (pv 3) pe_int (fun _ _ => rfl))) (pa_cons (pe_op op_sub (pe_op op_mulW pe_int (pe_ix (r := rIxT K) ix_tup (pv 7) pe_int (fun _ _ => rfl))) (pe_ix (r := rIxT K) ix_tup (pv 3) pe_int (fun _ _ => rfl))) pa_nil))) pa_nil))))
  (pss_one (ps_set (i := 2) nd rfl (.inl rfl) (pe_ifExp (pt_cmpR (op_neD hr.units) (pe_ix (r := rIxT K) ix_tup (pv 2) pe_int (fun _ _ => rfl)) (pe_ix (r := rIxT K) ix_tup (pv 2) pe_int (fun _ _ => rfl)) (nomark _)) (pv 2) (pe_tup (pa_cons (pv 3) (pa_cons (pe_tup (pa_cons (pe_ix (r := rIxT K) ix_tup (pv 3) pe_int (fun _ _ => rfl)) (pa_cons (pe_op op_sub (pe_ix (r := rIxT K) ix_tup (pv 3) pe_int (fun _ _ => rfl)) pe_int) pa_nil))) pa_nil)))))))) pss_nil)
  (pss_cons (ps_set (i := 8) nd rfl (.inl rfl) (pe_ix (r := rIxL K) ix_list (pe_lst (pa_cons pe_int (pa_cons pe_int pa_nil))) (pe_callTy call_int1 (by rfl) g_int (by decide +kernel) (pa_cons (pe_cmpR op_eq (Hs.pe_own O__law_pull hr (by first | decide | omega) (by rfl) (pa_cons (pv 0) (pa_cons pe_int pa_nil))) pe_int (nomark _)) pa_nil)) (fun _ _ => rfl)))
  (pss_cons (ps_set (i := 4) nd rfl (.inl rfl) (pe_tup (pa_cons (Hs.pe_own O__law_wider hr (by first | decide | omega) (by rfl) (pa_cons (pe_ix (r := rIxT K) ix_tup (pv 4) pe_int (fun _ _ => rfl)) (pa_cons (pv 8) pa_nil))) (pa_cons (Hs.pe_own O__law_wider hr (by first | decide | omega) (by rfl) (pa_cons (pe_ix (r := rIxT K) ix_tup (pv 4) pe_int (fun _ _ => rfl)) (pa_cons (pv 8) pa_nil))) pa_nil))))
  (pss_one (ps_ret (pe_tup (pa_cons (Hs.pe_own O__law_wider hr (by first | decide | omega) (by rfl) (pa_cons (pv 3) (pa_cons (pv 8) pa_nil))) (pa_cons (pv 4) (pa_cons (pe_tup (pa_cons (Hs.pe_own O__law_wider hr (by first | decide | omega) (by rfl) (pa_cons (pe_ix (r := rIxT K) ix_tup (pv 2) pe_int (fun _ _ => rfl)) (pa_cons (pv 8) pa_nil))) (pa_cons (Hs.pe_own O__law_wider hr (by first | decide | omega) (by rfl) (pa_cons (pe_ix (r := rIxT K) ix_tup (pv 2) pe_int (fun _ _ => rfl)) (pa_cons (pv 8) pa_nil))) pa_nil))) pa_nil)))))))))))))))))), ?_⟩)
  · obtain ⟨b, l, ns, n, rfl, _⟩ := h
    rfl
  · obtain ⟨b, l, ns, n, rfl, B, hn, k⟩ := h
    refine ⟨_, rfl, b, l, ns, n, rfl, B, by omega, fun g gw gx gy H1 G ng hg B1 b1 => ?_⟩
    dsimp only [gName, List.set]
    refine ⟨_, rfl, _, rfl, b, l, g, ns, _, gw, gx, gy, rfl, B1, by omega, hg, G, fun pl pa pb za zb H2 ca cb hpl hpa hpb B2 b2 => ?_⟩
    have hg2 := b2.tup B1 hg
    dsimp only [gName, List.set]
    refine ⟨_, rfl, _, rfl, b, l, g, ns, _, gw, gx, gy, rfl, B2, by omega, hg2, G, fun pp z H3 cz npp hpp B3 b3 => ?_⟩
    have hg3 := b3.tup B2 hg2
    dsimp only [gName, List.set]
    refine q_ev (tup_mk (cons_in ?_))
    refine ⟨_, rfl, _, rfl, b, l, g, ns, _, gw, gx, gy, rfl, B3, by omega, hg3, G, fun tc z1 H31 c1 nc hc B31 b31 => ?_⟩
    refine cons_in ?_
    refine ⟨_, rfl, _, rfl, b, l, g, ns, _, gw, gx, gy, rfl, B31, by omega, b31.tup B3 hg3, G, fun td z2 H32 c2 nd2 hd B32 b32 => ?_⟩
    refine ⟨sz_of (by simp), fun tb htb => ?_⟩
    have e4 := Ex.new (o := .tup [V.ref tc, .ref td]) htb
    have b34 : But H3 (upd H32 tb (.tup [V.ref tc, .ref td])) b := (b31.trans b32).ex e4
    have htb' : upd H32 tb (.tup [V.ref tc, .ref td]) tb = some (.tup [V.ref tc, .ref td]) := upd_same
    have hc4 := e4 _ _ (b32.tup B31 hc)
    have hd4 := e4 _ _ hd
    have B4 := B32.ext (m := n + 13) e4 (by omega)
    generalize upd H32 tb (.tup [V.ref tc, .ref td]) = H4 at *
    have hg4 := b34.tup B3 hg3
    dsimp only [gName, List.set]
    refine ⟨_, rfl, tb, _, rfl, .inr (st_of htb'), fun pe npe => ?_⟩
    have e5 := Ex.new (o := .lst [V.ref tc, .ref td]) npe
    have b24 : But H2 H4 b := b3.trans b34
    have X : S8 H (upd H4 pe (.lst [V.ref tc, .ref td])) b l ns (n + 20) g gw gx gy pp z pl pa pb za zb tb (z1, z2) pe [.ref tc, .ref td] := ⟨e5 _ _ hg4, G, e5 _ _ (b34.tup B3 hpp), cz.in3, e5 _ _ (b24.tup B2 hpl), e5 _ _ (b24.tup B2 hpa), e5 _ _ (b24.tup B2 hpb), ca.in3, cb.in3, ⟨tc, td, e5 _ _ htb', e5 _ _ hc4, e5 _ _ hd4⟩, ⟨upd_same, bag_ne B4 npe, by show 0 < 2; decide, by show 2 ≤ 1000; decide, fun x hx => by
      simp only [List.mem_cons, List.not_mem_nil, or_false] at hx
      rcases hx with rfl | rfl
      · exact ⟨_, _, rfl, e5 _ _ hc4, c1⟩
      · exact ⟨_, _, rfl, e5 _ _ hd4, c2⟩⟩, B4.ext e5 (by omega), ((b1.trans b2).trans b24).ex e5⟩
    have hth : Near (z1, z2).1 ∧ Near (z1, z2).2 := ⟨c1, c2⟩
    generalize upd H4 pe (.lst [V.ref tc, .ref td]) = H5 at X ⊢
    generalize [V.ref tc, .ref td] = es at X
    generalize (z1, z2) = θ at X hth
    dsimp only [gName, List.set]
    -- the way
    refine ⟨_, rfl, b, l, ns, _, 10, rfl, X.B, by omega, by decide, by decide, fun v H6 v0 v1 B6 b6 => ?_⟩
    replace X := X.draw b6 B6
    dsimp only [gName, List.set]
    have pick : ∀ {H' : Hp} {n' : Nat} {z : Pt} {pp pl pa pb : Addr} {za zb : Pt}, S8 H H' b l ns n' g gw gx gy pp z pl pa pb za zb tb θ pe es → n' < 800000 → ∀ Q' : VK, (∀ (q : Addr) (u : Pt) (H2 : Hp), Near u → H2 q = some (.tup (prV u)) → S8 H H2 b l ns (n' + 1) g gw gx gy pp z pl pa pb za zb tb θ pe es → Q' (.ref q) H2) → spOne K [.ref b, .ref pe] H' Q' E0 := fun {H' n' z pp pl pa pb za zb} S hn' Q' kk => ⟨b, l, pe, ns, n', es, rfl, S.B, by omega, S.es.h, S.es.ne, S.es.p0, S.es.p1, fun x H2 hx B2 b2 => by
      have S2 := S.draw b2 B2
      obtain ⟨q, u, rfl, h2, h3⟩ := S2.es.all x hx
      exact kk q u H2 h3 h2 S2⟩
    refine q_cut (M := fun σ' H' => ∃ (pp : Addr) (z : Pt), Near z ∧ σ' = [some (.ref b), some (.ref g), some (.ref pl), some (.ref pp), some (.ref tb), some (.ref pe), some (.int v), none, none] ∧ S8 H H' b l ns (n + 25) g gw gx gy pp z pl pa pb za zb tb θ pe es) ?_ ?_
    · refine s_when (et_test (ev_op (ev_var rfl) ev_c (rv_eq rfl))) (fun ht H7 e7 => ?_) (fun ht H7 e7 => ⟨pp, z, cz, rfl, (X.ex e7).up (by omega)⟩)
      refine ⟨_, rfl, _, rfl, pick (X.ex e7) (by omega) _ fun q u H8 cu hq S => ⟨q, u, cu, rfl, ⟨S.hg, S.G, hq, cu.in3, S.hl, S.ha, S.hb, S.ca, S.cb, S.th, S.es, S.B.ext (Ex.refl _) (by omega), S.k⟩⟩⟩
    clear X
    rintro σ' H7 ⟨pp, z, cz, rfl, X⟩
    refine q_cut (M := fun σ' H' => ∃ (pp : Addr) (z : Pt), (v ≠ 1 → Near z) ∧ σ' = [some (.ref b), some (.ref g), some (.ref pl), some (.ref pp), some (.ref tb), some (.ref pe), some (.int v), none, none] ∧ S8 H H' b l ns (n + 25) g gw gx gy pp z pl pa pb za zb tb θ pe es) ?_ ?_
    · refine s_when (et_test (ev_op (ev_var rfl) ev_c (rv_eq rfl))) (fun ht H8 e8 => ?_) (fun ht H8 e8 => ⟨pp, z, fun _ => cz, rfl, X.ex e8⟩)
      replace X := X.ex e8
      have q0 := st_of (K := K) X.hl
      have qa := st_of (K := K) X.ha
      have qb := st_of (K := K) X.hb
      obtain ⟨a1, a2⟩ := ca
      obtain ⟨c1, c2⟩ := cb
      have ev1 : v = 1 := by
        have z := of_decide_eq_true ht
        injection z
      refine s_asgU (xs := prV (2 * za.1 - zb.1, 2 * za.2 - zb.2)) (eu_tup (ea_cons (ev_op (ev_op ev_c (ev_ix2 rfl q0 rfl qa rfl) (rv_I (mul64 (by decide) (by omega)))) (ev_ix2 rfl q0 rfl qb rfl) rv_I0) (ea_cons (ev_op (ev_op ev_c (ev_ix2 rfl q0 rfl qa rfl) (rv_I (mul64 (by decide) (by omega)))) (ev_ix2 rfl q0 rfl qb rfl) rv_I0) ea_nil)) (by show 2 ≤ 100000; decide)) fun t H9 nt e9 ht9 => ⟨t, (2 * za.1 - zb.1, 2 * za.2 - zb.2), fun h => absurd ev1 h, rfl, ?_⟩
      have Y := X.ex e9
      refine ⟨Y.hg, Y.G, ht9, ⟨?_, ?_⟩, Y.hl, Y.ha, Y.hb, Y.ca, Y.cb, Y.th, Y.es, Y.B, Y.k⟩ <;> dsimp only <;> omega
    clear X cz
    rintro σ' H8 ⟨pp, z, cz, rfl, X⟩
    refine q_cut (M := fun σ' H' => ∃ (pl pa pb : Addr) (za zb : Pt) (v7 : Option V), σ' = [some (.ref b), some (.ref g), some (.ref pl), some (.ref pp), some (.ref tb), some (.ref pe), some (.int v), v7, none] ∧ S8 H H' b l ns (n + 30) g gw gx gy pp z pl pa pb za zb tb θ pe es) ?_ ?_
    · refine s_when (et_test (ev_op (ev_var rfl) ev_c (rv_eq rfl))) (fun ht H9 e9 => ?_) (fun ht H9 e9 => ⟨pl, pa, pb, za, zb, none, rfl, (X.ex e9).up (by omega)⟩)
      refine ⟨_, rfl, _, rfl, pick (X.ex e9) (by omega) _ fun q u H10 cu hq S => ?_⟩
      dsimp only [gName, List.set]
      refine s_ev ⟨_, rfl, _, rfl, _, rfl, _, rfl, b, l, g, q, ns, _, gw, gx, gy, u, rfl, S.B, by omega, S.hg, S.G, hq, cu, fun r u' H11 cu' hr B11 b11 => ⟨sz_of (by simp), fun t ht11 => ?_⟩⟩
      have S2 := S.draw b11 B11
      have hq2 := b11.tup S.B hq
      have e12 := Ex.new (o := .tup [V.ref q, .ref r]) ht11
      have Y := S2.ex e12
      exact ⟨t, q, r, u, u', _, rfl, ⟨Y.hg, Y.G, Y.hp, Y.cz, upd_same, e12 _ _ hq2, e12 _ _ hr, cu.in3, cu'.in3, Y.th, Y.es, Y.B.ext (Ex.refl _) (by omega), Y.k⟩⟩
    clear X ca cb
    rintro σ' H9 ⟨pl, pa, pb, za, zb, v7, rfl, X⟩
    refine q_cut (M := fun σ' H' => ∃ (pl pa pb : Addr) (za zb : Pt) (v7 : Option V), σ' = [some (.ref b), some (.ref g), some (.ref pl), some (.ref pp), some (.ref tb), some (.ref pe), some (.int v), v7, none] ∧ S8 H H' b l ns (n + 35) g gw gx gy pp z pl pa pb za zb tb θ pe es) ?_ ?_
    · refine s_when (et_test (ev_op (ev_var rfl) ev_c (rv_eq rfl))) (fun ht H10 e10 => ?_) (fun ht H10 e10 => ⟨pl, pa, pb, za, zb, v7, rfl, (X.ex e10).up (by omega)⟩)
      have ev3 : v = 3 := by
        have z := of_decide_eq_true ht
        injection z
      obtain ⟨z1, z2⟩ := cz (by omega)
      refine ⟨_, rfl, _, rfl, pick (X.ex e10) (by omega) _ fun q u H11 cu hq S => ?_⟩
      obtain ⟨u1, u2⟩ := cu
      dsimp only [gName, List.set]
      have qp := st_of (K := K) S.hp
      have qq := st_of (K := K) hq
      refine ⟨_, rfl, ?_⟩
      refine eu_tup (vs := prV (2 * u.1 - z.1, 2 * u.2 - z.2)) (σ := [some (.ref b), some (.ref g), some (.ref pl), some (.ref pp), some (.ref tb), some (.ref pe), some (.int v), some (.ref q), none]) (ea_cons (ev_op (ev_op ev_c (ev_ixt rfl qq rfl) (rv_I (mul64 (by decide) (by omega)))) (ev_ixt rfl qp rfl) rv_I0) (ea_cons (ev_op (ev_op ev_c (ev_ixt rfl qq rfl) (rv_I (mul64 (by decide) (by omega)))) (ev_ixt rfl qp rfl) rv_I0) ea_nil)) (by show 2 ≤ 100000; decide) H11 (Ex.refl _) _ fun r H12 nr e12 hr12 => ⟨sz_of (by simp), fun t ht12 => ?_⟩
      have e13 := Ex.new (o := .tup [V.ref pp, .ref r]) ht12
      have Y := (S.ex e12).ex e13
      have hr13 := e13 _ _ hr12
      have ht13 : upd H12 t (.tup [V.ref pp, .ref r]) t = some (.tup [V.ref pp, .ref r]) := upd_same
      generalize upd H12 t (.tup [V.ref pp, .ref r]) = H13 at *
      dsimp only [gName, List.set]
      have Z : S8 H H13 b l ns (n + 35) g gw gx gy pp z t pp r z (2 * u.1 - z.1, 2 * u.2 - z.2) tb θ pe es := ⟨Y.hg, Y.G, Y.hp, Y.cz, ht13, Y.hp, hr13, ⟨by omega, by omega⟩, ⟨by show (2 * u.1 - z.1).natAbs ≤ _; omega, by show (2 * u.2 - z.2).natAbs ≤ _; omega⟩, Y.th, Y.es, Y.B.ext (Ex.refl _) (by omega), Y.k⟩
      have qt := st_of (K := K) Z.hl
      have q1 := st_of (K := K) Z.hp
      have q2 := st_of (K := K) Z.hb
      refine s_ev ?_
      refine et_test (ev_nePt (K := K) (p := pp) (q := r) (x := z) (y := (2 * u.1 - z.1, 2 * u.2 - z.2)) (tx := tOp (rIxT K) (tVar 2) (tC (.int 0))) (ty := tOp (rIxT K) (tVar 2) (tC (.int 1))) (σ := [some (.ref b), some (.ref g), some (.ref t), some (.ref pp), some (.ref tb), some (.ref pe), some (.int v), some (.ref q), none]) (ev_ixt rfl qt rfl) (ev_ixt rfl qt rfl) q1 q2) H13 (Ex.refl _) _ fun H14 e14 => ?_
      by_cases hne : z = (2 * u.1 - z.1, 2 * u.2 - z.2)
      · refine ite_F (by rw [decide_eq_true hne]; rfl) ?_
        have qp4 := st_of (K := K) (e14 _ _ Z.hp)
        refine ⟨_, rfl, ?_⟩
        refine eu_tup (vs := prV (z.1, z.2 - 1)) (σ := [some (.ref b), some (.ref g), some (.ref t), some (.ref pp), some (.ref tb), some (.ref pe), some (.int v), some (.ref q), none]) (ea_cons (ev_ixt rfl qp4 rfl) (ea_cons (ev_op (ev_ixt rfl qp4 rfl) ev_c rv_I0) ea_nil)) (by show 2 ≤ 100000; decide) H14 (Ex.refl _) _ fun r2 H15 nr2 e15 hr15 => ⟨sz_of (by simp), fun t2 ht15 => ?_⟩
        have e16 := Ex.new (o := .tup [V.ref pp, .ref r2]) ht15
        have Y := ((Z.ex e14).ex e15).ex e16
        exact ⟨t2, pp, r2, z, (z.1, z.2 - 1), _, rfl, ⟨Y.hg, Y.G, Y.hp, Y.cz, upd_same, Y.hp, e16 _ _ hr15, ⟨by omega, by omega⟩, ⟨by show z.1.natAbs ≤ _; omega, by show (z.2 - 1).natAbs ≤ _; omega⟩, Y.th, Y.es, Y.B, Y.k⟩⟩
      · refine ite_T (by rw [decide_eq_false hne]; rfl) ?_
        exact ⟨_, rfl, t, pp, r, z, _, _, rfl, Z.ex e14⟩
    clear X pick cz
    rintro σ' H10 ⟨pl, pa, pb, za, zb, v7, rfl, X⟩
    -- how wide
    refine ⟨sz_of (by simp), fun tl htl => ⟨_, rfl, b, l, ns, _, 5, rfl, X.B.ext (Ex.new htl) (Nat.le_refl _), by omega, by decide, by decide, fun u H11 u0 u1 B11 b11 => ⟨rfl, .inr ⟨_, rfl, ?_⟩⟩⟩⟩
    have t5 := b11 _ _ (upd_same (H := H10) (a := tl) (o := .lst [V.int 1, .int 1000])) (bag_ne X.B htl)
    replace X := (X.ex (Ex.new (o := .lst [V.int 1, .int 1000]) htl)).draw b11 B11
    obtain ⟨many, hat, mb, m0⟩ : ∃ many : Int, atI [V.int 1, .int 1000] (if decide (V.int u = V.int 0) = true then 1 else 0) = some (.int many) ∧ Bd 10 many ∧ 0 ≤ many := by
      split
      · exact ⟨1000, rfl, by unfold Bd; decide, by decide⟩
      · exact ⟨1, rfl, by unfold Bd; decide, by decide⟩
    refine ⟨tl, _, _, .int many, rfl, rfl, sq_of t5, hat, ?_⟩
    dsimp only [gName, List.set]
    clear t5 hat b11 B11 htl
    obtain ⟨wc, wd, ht1, ht2, ht3⟩ := X.th
    refine q_ev (tup_mk (cons_in ?_))
    refine (eu_wider (K := K) (n := 22) (m := 10) (σ := [some (.ref b), some (.ref g), some (.ref pl), some (.ref pp), some (.ref tb), some (.ref pe), some (.int v), v7, some (.int many)]) (ev_ixt rfl (st_of ht1) rfl) (ev_var rfl) ⟨st_of ht2, hth.1.in3.bd⟩ mb) H11 (Ex.refl _) _ fun c' H12 nc' e12 hc' => ?_
    refine cons_in ?_
    refine (eu_wider (K := K) (n := 22) (m := 10) (σ := [some (.ref b), some (.ref g), some (.ref pl), some (.ref pp), some (.ref tb), some (.ref pe), some (.int v), v7, some (.int many)]) (ev_ixt rfl (st_of (e12 _ _ ht1)) rfl) (ev_var rfl) ⟨st_of (e12 _ _ ht3), hth.2.in3.bd⟩ mb) H12 (Ex.refl _) _ fun d' H13 nd' e13 hd' => ?_
    refine ⟨sz_of (by simp), fun tc htc => ?_⟩
    have e14 := Ex.new (o := .tup [V.ref c', .ref d']) htc
    replace X := X.ex ((e12.trans e13).trans e14)
    have bth : BdT 32 (thX θ many) := ⟨⟨hth.1.in3.bd.1.mul mb, hth.1.in3.bd.2.mul mb⟩, hth.2.in3.bd.1.mul mb, hth.2.in3.bd.2.mul mb⟩
    replace hth : ThAt (upd H13 tc (.tup [V.ref c', .ref d'])) tc (thX θ many) := ⟨c', d', upd_same, (e13.trans e14) _ _ hc', e14 _ _ hd'⟩
    generalize upd H13 tc (.tup [V.ref c', .ref d']) = H14 at *
    dsimp only [gName, List.set]
    refine s_retT3 (pw := ⟨st_of X.hp, X.cz.bd⟩) X.hl ⟨st_of X.ha, X.ca.bd⟩ ⟨st_of X.hb, X.cb.bd⟩ mb rfl rfl rfl rfl fun t qp ql qa qb H15 e15 ht hqp hql hqa hqb => ?_
    exact k t qp tc ql qa qb _ _ _ (thX θ many) H15 ht hqp ⟨X.cz.bd.1.mul mb, X.cz.bd.2.mul mb⟩ hql hqa ⟨X.ca.bd.1.mul mb, X.ca.bd.2.mul mb⟩ hqb ⟨X.cb.bd.1.mul mb, X.cb.bd.2.mul mb⟩ (hth.ex e15) bth (X.B.ext e15 (by omega)) (X.k.ex e15)
end
end Hs
namespace Hs
open PySem PySem.Spec PyProof.Rows L2 Evl
/-! ### shades, for either sort -/
abbrev htT (θ : Th) (x : Pt) : List Int := phts θ.1 θ.2 x
abbrev htR (θ : Th) (x : Pt) : List Int := phts θ.2 θ.1 x
abbrev nM : Nat := 67
abbrev qM : Nat := 6
abbrev nS : Nat := 4475
abbrev mS : Nat := 8952
abbrev ThOk (K : PySem.W.Frag) (n : Nat) (H : Hp) (tb : Addr) (θ : Th) : Prop := Pc K n H tb θ.1 θ.2
theorem thOk_of {K : PySem.W.Frag} {n : Nat} {H : Hp} {tb : Addr} {θ : Th} (h : ThAt H tb θ) (b : BdT n θ) : ThOk K n H tb θ := by
  obtain ⟨c, d, h1, h2, h3⟩ := h
  exact ⟨c, d, st_of h1, ⟨st_of h2, b.1⟩, ⟨st_of h3, b.2⟩⟩
abbrev DarkP (θ : Th) (p a b s : Pt) : Prop := CutP (θ.1.1 * s.2, θ.1.2 * s.2) (θ.2.1 * s.2, θ.2.2 * s.2) (p.1 * s.2, p.2 * s.2) (atS a b s)
theorem dk_dark {θ : Th} {p a b s : Pt} (hv : BdT 32 θ) (F : Fr1 s) : Dk (rows3 (htT θ p) (htT θ a) (htT θ b)) s.1 s.2 ↔ DarkP θ p a b s := dk_cut F
theorem dk_back {θ : Th} {p a b : Pt} {x y : Int} : Dk (rows3 (htR θ p) (htR θ b) (htR θ a)) x y ↔ Dk (rows3 (htT θ p) (htT θ a) (htT θ b)) (y - x) y := dk_turn.trans dk_flip
theorem htT_bd {θ : Th} {x : Pt} (h : BdT 32 θ) (hx : Bd 32 x.1 ∧ Bd 32 x.2) : BdL nM (htT θ x) := phts_bd h.1 h.2 hx
theorem htT_len {θ : Th} {x y : Pt} : (htT θ x).length = (htT θ y).length := rfl
theorem htR_len {θ : Th} {x y : Pt} : (htR θ x).length = (htR θ y).length := rfl
theorem htT_q {θ : Th} {x : Pt} : (htT θ x).length ≤ qM := by show 6 ≤ 6; decide
end Hs
namespace Hs
theorem shade_bd {m q : Nat} {xs ys zs : List Int} {lo hi : Pt} (hxy : xs.length = ys.length) (hxz : xs.length = zs.length) (hq : xs.length ≤ q) (bx : BdL m xs) (by' : BdL m ys) (bz : BdL m zs) (h : shadeV xs ys zs = some (lo, hi)) : (Bd (bq m q + 1) lo.1 ∧ Bd (bq m q + 1) lo.2) ∧ Bd (bq m q + 1) hi.1 ∧ Bd (bq m q + 1) hi.2 := by
  unfold shadeV at h
  by_cases hx : ∀ x ∈ xs, 0 ≤ x
  · rw [if_pos hx] at h
    cases h
    have b0 : Bd (bq m q + 1) 0 := Nat.two_pow_pos _
    have b1 : Bd (bq m q + 1) 1 := Nat.one_lt_two_pow (by omega)
    exact ⟨⟨b0, b1⟩, b1, b1⟩
  · rw [if_neg hx] at h
    by_cases hn : cutAll unit3 (rows3 xs ys zs) = []
    · rw [if_pos hn] at h
      cases h
    · rw [if_neg hn] at h
      cases h
      have hrl := rows3_length hxy hxz
      obtain ⟨pts, plen⟩ := cutAll_pts unit3_pts (rows3_bd bx by' bz) (by decide) (rows3 xs ys zs).length (Nat.le_refl _)
      rw [List.take_length] at pts
      have C := cut3_ok (rows3_len (x := xs) (y := ys) (z := zs))
      have sh : ∀ w ∈ cutAll unit3 (rows3 xs ys zs), ShW (bq m q) w := fun w hw => by
        have hb : BdL (bq m q) w := fun z hz => ((pts w hw).2 z hz).mono (bq_mono (by omega))
        have hS := C.mem w hw
        obtain ⟨w0, w1, w2, rfl, _⟩ := wt3 hS.1
        exact ⟨by simp, by simp, hb, last_pos hS (not_in hxy hxz hx)⟩
      have ne : (cutAll unit3 (rows3 xs ys zs)).map shr ≠ [] := by simp [hn]
      have ps : ∀ x ∈ (cutAll unit3 (rows3 xs ys zs)).map shr, 0 < x.2 := fun x hx => by
        obtain ⟨w, hw, rfl⟩ := List.mem_map.mp hx
        have hS := C.mem w hw
        have lp := sh w hw
        obtain ⟨w0, w1, w2, rfl, _⟩ := wt3 hS.1
        rw [shr3]
        exact low_pos (by have := lp.2.2.2; show w1 + w2 ≠ 0; have e : (0 : Int) < w1 + w2 := this; omega)
      have bd : ∀ x ∈ (cutAll unit3 (rows3 xs ys zs)).map shr, Bd (bq m q + 1) x.1 ∧ Bd (bq m q + 1) x.2 := fun x hx => by
        obtain ⟨w, hw, rfl⟩ := List.mem_map.mp hx
        exact shr_bd (sh w hw)
      exact ⟨bd _ (least_ok ne ps).1, bd _ (great_ok ne ps).1⟩
end Hs
namespace Hs
open PySem PySem.Spec PyProof.Rows L2 Evl LamX NdefX
theorem next_of {D : Ends} {σ : L2.St} {H : Hp} (h : D.nx σ H) : tNext D σ H := h
theorem tup_in {r : List V → Hp → VK → Prop} {te : TE} {σ : L2.St} {H : Hp} {Q : VK} (h : te σ H fun x H1 => r [x] H1 Q) : tCB r (tCons te tNil) σ H Q := h
theorem op_in {r : R2} {t1 t2 : TE} {σ : L2.St} {H : Hp} {Q : VK} (h : t1 σ H fun x H1 => t2 σ H1 fun y H2 => r x y H2 Q) : tOp r t1 t2 σ H Q := h
/-- what the scene tells, as it stands -/
structure F8 (K : PySem.W.Frag) (T : List (Addr × Str)) (H : Hp) (b l : Addr) (ns : List Int) (n : Nat) (pp tb pl pa pb : Addr) (z za zb : Pt) (θ : Th) : Prop where
  hp : H pp = some (.tup (prV z))
  cz : Bd 32 z.1 ∧ Bd 32 z.2
  hl : H pl = some (.tup [.ref pa, .ref pb])
  ha : H pa = some (.tup (prV za))
  ca : Bd 32 za.1 ∧ Bd 32 za.2
  hb : H pb = some (.tup (prV zb))
  cb : Bd 32 zb.1 ∧ Bd 32 zb.2
  th : ThAt H tb θ
  bt : BdT 32 θ
  B : BagAt H b l ns n
  T : LamX.Tabs T H
section
variable {K : PySem.W.Frag} {T : List (Addr × Str)} {H H' : Hp} {b l : Addr} {ns : List Int} {n n' : Nat} {pp tb pl pa pb : Addr} {z za zb : Pt} {θ : Th}
theorem F8.ex (F : F8 K T H b l ns n pp tb pl pa pb z za zb θ) (e : Ex H H') : F8 K T H' b l ns n pp tb pl pa pb z za zb θ := ⟨e _ _ F.hp, F.cz, e _ _ F.hl, e _ _ F.ha, F.ca, e _ _ F.hb, F.cb, F.th.ex e, F.bt, F.B.ext e (Nat.le_refl _), F.T.ext e⟩
theorem F8.p (F : F8 K T H b l ns n pp tb pl pa pb z za zb θ) : Pl K 32 H pp z := ⟨st_of F.hp, F.cz⟩
theorem F8.l2 (F : F8 K T H b l ns n pp tb pl pa pb z za zb θ) : Pc K 32 H pl za zb := ⟨pa, pb, st_of F.hl, ⟨st_of F.ha, F.ca⟩, ⟨st_of F.hb, F.cb⟩⟩
theorem F8.o (F : F8 K T H b l ns n pp tb pl pa pb z za zb θ) : ThOk K 32 H tb θ := thOk_of F.th F.bt
end
section
variable {P : Program} {w : World} {K : PySem.W.Frag} {mg : Str → Option Value} {base : Heap} {c pt : Addr}
abbrev sLaw : Stmt := top 46
theorem scLaw : FnScope ["_law_script", "_law_bag_here", "_law_step", "_law_place", "_law_thing", "_law_line_here", "_law_found", "_law_turned", "_law_some", "_law_walked", "_law_share", "_law_one_here"] ["_law_script"] (defScope sLaw) := ⟨rfl, rfl, rfl, by decide +kernel, rfl, by decide +kernel, by decide +kernel⟩
theorem law_body {A : Around} {outer : List Env} {s : Shared} {H : Hp} {E : XK} {f : Addr} (hr : Room 7 (A.deeper (envOfC "law" (defScope sLaw) s.heap.objs.size f (.ref c))))
    (O__law_bag : Own P w K mg base 1 "_law_bag" ["_law_script"] (spBag K)) (O__law_scene : Own P w K mg base 5 "_law_scene" ["_law_bag_here"] (spScene K)) (O__law_some_shares : Own P w K mg base 3 "_law_some_shares" ["_law_bag_here"] spSomeSh) (O__law_same : Own P w K mg base 3 "_law_same" ["_law_got", "_law_due"] (spSame K 3)) (O_piece_shade : Own P w K mg base 6 "piece_shade" ["place", "piece", "line"] (spPsd K 32)) (O__law_piece_dark : Own P w K mg base 5 "_law_piece_dark" ["_law_place", "_law_piece", "_law_line_here", "_law_share"] (spDark K 32 mS))
    (O__law_span_so : ∀ base', (∀ b o, base.get? b = some o → base'.get? b = some o) → Own P w K mg base' 7 "_law_span_so" ["_law_found", "_law_good"] (spSpan P w K mg 6 nS mS base')) (OO : ∀ base', (∀ b o, base.get? b = some o → base'.get? b = some o) → Own P w K mg base' 5 "_law_piece_dark" ["_law_place", "_law_piece", "_law_line_here", "_law_share"] (spDark K 32 mS))
    (TB : LamX.TabB base mg c pt) (g_range : mg "range" = none) (g_tuple : mg "tuple" = none) (g_any : mg "any" = none) {vs : List V} {Q : VK} (h : spLaw K [(pt, lamQ)] vs H Q E) :
    ∃ t, PSs (cxOf CX0 P w K mg base ["_law_script", "_law_bag_here", "_law_step", "_law_place", "_law_thing", "_law_line_here", "_law_found", "_law_turned", "_law_some", "_law_walked", "_law_share", "_law_one_here"] "law" (defScope sLaw) f (.ref c) A outer s H E) (defBody sLaw) t ∧ t { nx := fun _ H' => Q .non H', rt := Q } (L2.start ["_law_script", "_law_bag_here", "_law_step", "_law_place", "_law_thing", "_law_line_here", "_law_found", "_law_turned", "_law_some", "_law_walked", "_law_share", "_law_one_here"] vs) H := by
  have nd := scLaw.nd
  refine ⟨_, PSs.nox (pss_cons (ps_set (i := 1) nd rfl (.inl rfl) (Hs.pe_own O__law_bag hr (by first | decide | omega) (by rfl) (pa_cons (pv 0) pa_nil)))
  (pss_cons (ps_for PassesOwn.never rfl (pi_range1 (by rfl) g_range (pa_cons pe_int pa_nil)) (pg_name (i := 2) nd rfl (.inl rfl)) (pss_cons (ps_asg (Hs.pe_own O__law_scene hr (by first | decide | omega) (by rfl) (pa_cons (pv 1) pa_nil)) (pg_tup rfl (pgs_cons (pg_name (i := 3) nd rfl (.inr rfl)) (pgs_cons (pg_name (i := 4) nd rfl (.inr rfl)) (pgs_cons (pg_name (i := 5) nd rfl (.inr rfl)) pgs_nil)))))
  (pss_cons (ps_set (i := 6) nd rfl (.inl rfl) (Hs.pe_own O_piece_shade hr (by first | decide | omega) (by rfl) (pa_cons (pv 3) (pa_cons (pv 4) (pa_cons (pv 5) pa_nil)))))
  (pss_cons (ps_set (i := 7) nd rfl (.inl rfl) (Hs.pe_own O_piece_shade hr (by first | decide | omega) (by rfl) (pa_cons (pv 3) (pa_cons (Hs.pe_revT (pv 4)) (pa_cons (Hs.pe_revT (pv 5)) pa_nil)))))
  (pss_one (ps_if (pt_cmpR op_isN (pv 6) pe_non (nomark _)) (pss_cons (ps_set (i := 8) nd rfl (.inl rfl) (pe_op op_cat (Hs.pe_own O__law_some_shares hr (by first | decide | omega) (by rfl) (pa_cons (pv 1) pa_nil)) (pe_lst (pa_cons (pe_tup (pa_cons pe_int (pa_cons pe_int pa_nil))) (pa_cons (pe_tup (pa_cons pe_int (pa_cons pe_int pa_nil))) (pa_cons (pe_tup (pa_cons pe_int (pa_cons pe_int pa_nil))) (pa_cons (pe_tup (pa_cons pe_int (pa_cons pe_int pa_nil))) pa_nil)))))))
  (pss_cons (ps_setLc (i := 9) (own := [("_law_share", 10)]) rfl nd rfl rfl (sw_true rfl rfl rfl (by decide +kernel)) (pi_list (pv 8)) (blkOk_by (N := ["_law_script", "_law_bag_here", "_law_step", "_law_place", "_law_thing", "_law_line_here", "_law_found", "_law_turned", "_law_some", "_law_walked", "_law_share", "_law_one_here"]) (sc := defScope (Hs.top 46)) (by decide +kernel)) (fun _ _ _ _ _ => (pg_name (i := 10) nd rfl (Or.inl rfl))) (fun _ _ _ _ _ => pts_nil) (fun _ _ _ _ _ => (Hs.pe_own O__law_piece_dark hr (by first | decide | omega) (by rfl) (pa_cons (pv 3) (pa_cons (pv 4) (pa_cons (pv 5) (pa_cons (pv 10) pa_nil)))))))
  (pss_one (ps_if (PW.pt (pw_or (pt_cmpR op_notN (pv 7) pe_non (nomark _)) (pw_or1 (pt_val (pe_callB (r := rAny K) (cr_any rfl) (by rfl) g_any (by decide +kernel) (pa_cons (pv 9) pa_nil)))))) (pss_one (ps_ret pe_bl)) pss_nil)))) (pss_one (ps_if (pt_not (pt_val (Hs.pe_ownB (sp := spSpan P w K mg 6 nS mS) O__law_span_so (fun _ => rfl) hr (by decide) (by rfl) (pa_cons (pv 6) (pa_cons (Hs.pe_lam (T := [(pt, lamQ)]) TB rfl (List.mem_singleton.mpr rfl) (fun p hp _ => by rw [List.mem_singleton.mp hp] <;> rfl) rfl (Hs.free_by (sc := defScope sLaw) (by decide +kernel))) pa_nil))))) (pss_one (ps_ret pe_bl)) (pss_one (ps_if (pt_not (pt_val (Hs.pe_own O__law_same hr (by first | decide | omega) (by rfl) (pa_cons (pv 7) (pa_cons (pe_callTy call_tuple_of (by rfl) g_tuple (by decide +kernel) (pa_cons (pe_lc (own := [("_law_one_here", 11)]) rfl nd (pi_tup (Hs.pe_revT (pv 6))) (blkOk_by (N := ["_law_script", "_law_bag_here", "_law_step", "_law_place", "_law_thing", "_law_line_here", "_law_found", "_law_turned", "_law_some", "_law_walked", "_law_share", "_law_one_here"]) (sc := defScope (Hs.top 46)) (by decide +kernel)) (fun _ _ _ _ _ => (pg_name (i := 11) nd rfl (Or.inl rfl))) (fun _ _ _ _ _ => pts_nil) (fun _ _ _ _ _ => (pe_tup (pa_cons (pe_op op_sub (pe_ix (r := rIxT K) ix_tup (pv 11) pe_int (fun _ _ => rfl)) (pe_ix (r := rIxT K) ix_tup (pv 11) pe_int (fun _ _ => rfl))) (pa_cons (pe_ix (r := rIxT K) ix_tup (pv 11) pe_int (fun _ _ => rfl)) pa_nil))))) pa_nil)) pa_nil))))) (pss_one (ps_ret pe_bl)) pss_nil))))))))))
  (pss_one (ps_ret pe_bl)))), ?_⟩
  obtain ⟨a, ns, rfl, hS0, hl, hT, k⟩ := h
  refine ⟨_, rfl, a, ns, rfl, hS0, hl, fun b l H1 nb nl B1 e1 => ?_⟩
  have hT1 := hT.ext e1
  show tSeq _ _ _ [some (.ref a), some (.ref b), none, none, none, none, none, none, none, none, none, none] H1
  refine q_forR1 (n := 5) (ea_cons ev_c ea_nil) (by decide) (fun i σ' H' => (∃ v2 v3 v4 v5 v6 v7 v8 v9 : Option V, σ' = [some (.ref a), some (.ref b), v2, v3, v4, v5, v6, v7, v8, v9, none, none]) ∧ BagAt H' b l ns (50 * i) ∧ LamX.Tabs [(pt, lamQ)] H') ?_ ?_ ?_
  · intro H4 e4
    exact ⟨⟨none, none, none, none, none, none, none, none, rfl⟩, B1.ext e4 (by omega), hT1.ext e4⟩
  · rintro t σ' H4 ht ⟨⟨v2, v3, v4, v5, v6, v7, v8, v9, rfl⟩, B4, T4⟩
    obtain ⟨xb4, hb4⟩ := bag_lst B4
    refine ⟨_, rfl, b, l, ns, _, rfl, B4, by omega, fun tt pp tb pl pa pb z za zb θ H5 htt hpp cz hpl hpa ca hpb cb hth bth B5 b5 => ?_⟩
    have X : F8 K [(pt, lamQ)] H5 b l ns (50 * t + 40) pp tb pl pa pb z za zb θ := ⟨hpp, cz, hpl, hpa, ca, hpb, cb, hth, bth, B5, tabs_but T4 hb4 b5⟩
    refine ⟨tt, _, rfl, st_of htt, rfl, _, _, rfl, _, _, rfl, _, _, rfl, rfl, ?_⟩
    clear hpp cz hpl hpa ca hpb cb hth bth B5 b5 htt
    dsimp only [gName, List.set]
    refine q_ev ⟨_, rfl, _, rfl, _, rfl, pp, tb, pl, z, θ, za, zb, rfl, X.p, X.o, X.l2, retO_of fun u1 H6 e6 o1 => ?_⟩
    replace X := X.ex e6
    dsimp only [gName, List.set]
    obtain ⟨c0, d0, t1, t2, t3⟩ := X.th
    refine q_ev ⟨_, rfl, _, rfl, tb, .ref c0, .ref d0, rfl, st_of t1, fun pq hpq => ⟨_, rfl, pl, .ref pa, .ref pb, rfl, st_of ((Ex.new (o := .tup [V.ref d0, .ref c0]) hpq) _ _ X.hl), fun pr hpr => ?_⟩⟩
    have eQ := Ex.new (o := .tup [V.ref d0, .ref c0]) hpq
    have eR := Ex.new (o := .tup [V.ref pb, .ref pa]) hpr
    have eQR := eQ.trans eR
    have XR := X.ex eQR
    refine ⟨pp, pq, pr, z, (θ.2, θ.1), zb, za, rfl, XR.p, ⟨d0, c0, st_of (eR _ _ upd_same), ⟨st_of (eQR _ _ t3), X.bt.2⟩, ⟨st_of (eQR _ _ t2), X.bt.1⟩⟩, ⟨pb, pa, st_of upd_same, ⟨st_of XR.hb, XR.cb⟩, ⟨st_of XR.ha, XR.ca⟩⟩, retO_of fun u2 H7 e7 o2 => ?_⟩
    replace X := XR.ex e7
    replace o1 := o1.ext (eQR.trans e7)
    clear XR
    dsimp only [gName, List.set] at o2 ⊢
    have S1 := shade_ok (xs := htT θ z) (ys := htT θ za) (zs := htT θ zb) htT_len htT_len
    have S2 := shade_ok (xs := htR θ z) (ys := htR θ zb) (zs := htR θ za) htR_len htR_len
    have bd12 := fun lo hi => shade_bd (m := nM) (q := qM) (lo := lo) (hi := hi) (xs := htT θ z) (ys := htT θ za) (zs := htT θ zb) htT_len htT_len htT_q (htT_bd X.bt X.cz) (htT_bd X.bt X.ca) (htT_bd X.bt X.cb)
    generalize shadeV (htT θ z) (htT θ za) (htT θ zb) = w1 at o1 S1 bd12
    generalize shadeV (htR θ z) (htR θ zb) (htR θ za) = w2 at o2 S2
    cases w1 with
    | none =>
      have hN : ∀ x y, ¬ Dk (rows3 (htT θ z) (htT θ za) (htT θ zb)) x y := S1
      obtain rfl : u1 = .non := o1
      cases w2 with
      | some w =>
        obtain ⟨lo, hi⟩ := w
        have E2 : EndsP (Dk (rows3 (htR θ z) (htR θ zb) (htR θ za))) lo hi := S2
        exact absurd (dk_back.mp ((E2.iff lo.1 lo.2 E2.lo1.pos E2.lo1.nn E2.lo1.le).mpr ⟨Int.le_refl _, E2.le⟩)) (hN _ _)
      | none =>
        obtain rfl : u2 = .non := o2
        refine s_if (b := true) (et_test (ev_op (ev_var rfl) ev_c (rv_val fun H1 _ Q q => ⟨rfl, q⟩))) (fun _ H8 e8 => ?_) (fun z => Bool.noConfusion z)
        replace X := X.ex e8
        refine q_ev (op_in ?_)
        refine ⟨_, rfl, b, l, ns, _, rfl, X.B, by omega, fun tl p1 p2 p3 p4 s4 H9 htl q1 q2 q3 q4 F4 b4 B9 b9 => ?_⟩
        obtain ⟨xb9, hb9⟩ := bag_lst X.B
        replace X : F8 K [(pt, lamQ)] H9 b l ns (50 * t + 43) pp tb pl pa pb z za zb θ := ⟨b9.tup X.B X.hp, X.cz, b9.tup X.B X.hl, b9.tup X.B X.ha, X.ca, b9.tup X.B X.hb, X.cb, X.th.but b9 X.B, X.bt, B9, tabs_but X.T hb9 b9⟩
        refine elu_lst (us := [prV (1, 3), prV (2, 3), prV (1, 7), prV (6, 7)]) (σ := [some (.ref a), some (.ref b), some (.int (t : Int)), some (.ref pp), some (.ref tb), some (.ref pl), some .non, some .non, v8, v9, none, none]) (ep_cons (ew_u (eu_tup (ea_cons ev_c (ea_cons ev_c ea_nil)) (by show 2 ≤ 100000; decide))) (ep_cons (ew_u (eu_tup (ea_cons ev_c (ea_cons ev_c ea_nil)) (by show 2 ≤ 100000; decide))) (ep_cons (ew_u (eu_tup (ea_cons ev_c (ea_cons ev_c ea_nil)) (by show 2 ≤ 100000; decide))) (ep_cons (ew_u (eu_tup (ea_cons ev_c (ea_cons ev_c ea_nil)) (by show 2 ≤ 100000; decide))) ep_nil)))) (by simp) H9 (Ex.refl _) _ fun l2 ps2 H10 nl2 e10 hl2 T10 => ?_
        obtain ⟨r1, r2, r3, r4, rfl⟩ : ∃ r1 r2 r3 r4, ps2 = [r1, r2, r3, r4] := match ps2, T10.1 with
          | [r1, r2, r3, r4], _ => ⟨r1, r2, r3, r4, rfl⟩
        refine ⟨tl, l2, _, _, rfl, rfl, e10 _ _ htl, hl2, sz_of (by show 8 ≤ 100000; decide), fun ls hls => ?_⟩
        have e11 := Ex.new (o := .lst ([V.ref p1, .ref p2, .ref p3, .ref p4] ++ [r1, r2, r3, r4].map V.ref)) hls
        have all : ∀ p ∈ [p1, p2, p3, p4, r1, r2, r3, r4], ∃ s : Pt, Pl K mS (upd H10 ls (.lst ([V.ref p1, .ref p2, .ref p3, .ref p4] ++ [r1, r2, r3, r4].map V.ref))) p s ∧ Fr1 s := fun p hp => by
          have e1011 := e10.trans e11
          have frs : ∀ x y : Int, 0 < y → 0 ≤ x → x ≤ y → Int.gcd x y = 1 → x < 8 → y < 8 → ∀ {q : Addr}, upd H10 ls (.lst ([V.ref p1, .ref p2, .ref p3, .ref p4] ++ [r1, r2, r3, r4].map V.ref)) q = some (.tup (prV (x, y))) → ∃ s : Pt, Pl K mS (upd H10 ls (.lst ([V.ref p1, .ref p2, .ref p3, .ref p4] ++ [r1, r2, r3, r4].map V.ref))) q s ∧ Fr1 s := fun x y h1 h2 h3 h4 h5 h6 {q} hq => by
            have b8 : ∀ i : Int, 0 ≤ i → i < 8 → Bd mS i := fun i i0 i1 => Bd.mono (n := 3) (show i.natAbs < 2 ^ 3 by omega) (by decide)
            exact ⟨(x, y), ⟨st_of hq, b8 x h2 h5, b8 y (by omega) h6⟩, ⟨h1, h2, h3, h4⟩⟩
          simp only [List.mem_cons, List.not_mem_nil, or_false] at hp
          rcases hp with rfl | rfl | rfl | rfl | rfl | rfl | rfl | rfl
          · exact frs 0 1 (by decide) (by decide) (by decide) rfl (by decide) (by decide) (e1011 _ _ q1)
          · exact frs 1 1 (by decide) (by decide) (by decide) rfl (by decide) (by decide) (e1011 _ _ q2)
          · exact frs 1 2 (by decide) (by decide) (by decide) rfl (by decide) (by decide) (e1011 _ _ q3)
          · exact ⟨s4, ⟨st_of (e1011 _ _ q4), b4.1.mono (by decide), b4.2.mono (by decide)⟩, F4⟩
          · exact frs 1 3 (by decide) (by decide) (by decide) rfl (by decide) (by decide) (e11 _ _ (T10.2 0 _ _ rfl rfl))
          · exact frs 2 3 (by decide) (by decide) (by decide) rfl (by decide) (by decide) (e11 _ _ (T10.2 1 _ _ rfl rfl))
          · exact frs 1 7 (by decide) (by decide) (by decide) rfl (by decide) (by decide) (e11 _ _ (T10.2 2 _ _ rfl rfl))
          · exact frs 6 7 (by decide) (by decide) (by decide) rfl (by decide) (by decide) (e11 _ _ (T10.2 3 _ _ rfl rfl))
        replace X := (X.ex e10).ex e11
        have hls' : upd H10 ls (.lst ([V.ref p1, .ref p2, .ref p3, .ref p4] ++ [r1, r2, r3, r4].map V.ref)) ls = some (.lst ([p1, p2, p3, p4, r1, r2, r3, r4].map V.ref)) := upd_same
        generalize upd H10 ls (.lst ([V.ref p1, .ref p2, .ref p3, .ref p4] ++ [r1, r2, r3, r4].map V.ref)) = H11 at *
        have hlen : ([p1, p2, p3, p4, r1, r2, r3, r4].map V.ref).length ≤ 40000 := by show 8 ≤ 40000; decide
        generalize [p1, p2, p3, p4, r1, r2, r3, r4] = qs at all hls' hlen
        dsimp only [gName, List.set]
        refine q_asgL (xs := given (qs.map V.ref).length (fun _ => true) (fun _ => V.bl false)) (el_lcL' (K := K) (xs := qs.map V.ref) (fun _ => V.bl false) (ev_var rfl) (sq_of hls') ?len (fun _ => rfl) (fun i x H12 e12 hx => ?_)) fun lw H12 nlw e12 hlw => ?_
        case len => exact hlen
        · rw [List.getElem?_map] at hx
          obtain ⟨q, hq, rfl⟩ := Option.map_eq_some_iff.mp hx
          obtain ⟨s, hs, Fs⟩ := all q (List.mem_of_getElem? hq)
          have nd' : ¬ DarkP θ z za zb s := fun hd => hN _ _ ((dk_dark X.bt Fs).mpr hd)
          refine ev_is (v := .bl (decide (DarkP θ z za zb s))) (ev_call (ea_cons (ev_var rfl) (ea_cons (ev_var rfl) (ea_cons (ev_var rfl) (ea_cons (ev_var rfl) ea_nil)))) fun H13 e13 Q' q' E' => ?_) (by rw [decide_eq_false nd'])
          exact ⟨pp, tb, pl, q, z, θ, za, zb, s, rfl, (X.ex (e12.trans e13)).p, (X.ex (e12.trans e13)).o, (X.ex (e12.trans e13)).l2, hs.ext (e12.trans e13), q'⟩
        · dsimp only [gName, List.set]
          refine s_when (b := false) (et_is (et_or (et_test (ev_op (ev_var rfl) ev_c (rv_val fun H1 _ Q q => ⟨rfl, q⟩))) fun _ => et_B (fun H13 e13 Q' q' => ⟨_, rfl, lw, List.replicate (qs.map V.ref).length false, rfl, sq_of (by rw [e13 _ _ hlw, given_false]), by
            have e3 : (List.replicate (qs.map V.ref).length false).any id = false := by simp
            rw [e3]
            exact q' H13 (Ex.refl _)⟩)) rfl) (fun z => Bool.noConfusion z) (fun _ H13 e13 => ⟨⟨_, _, _, _, _, _, _, _, rfl⟩, X.B.ext (e12.trans e13) (by omega), X.T.ext (e12.trans e13)⟩)
    | some w =>
      obtain ⟨lo, hi⟩ := w
      have E1 : EndsP (Dk (rows3 (htT θ z) (htT θ za) (htT θ zb))) lo hi := S1
      obtain ⟨bl, bh⟩ := bd12 lo hi rfl
      obtain ⟨s1, s2, s3, rfl, s4, s5, s6⟩ := o1
      cases w2 with
      | none =>
        have hN : ∀ x y, ¬ Dk (rows3 (htR θ z) (htR θ zb) (htR θ za)) x y := S2
        have d1 := (E1.iff lo.1 lo.2 E1.lo1.pos E1.lo1.nn E1.lo1.le).mpr ⟨Int.le_refl _, E1.le⟩
        have e : lo.2 - (lo.2 - lo.1) = lo.1 := by omega
        rw [← e] at d1
        exact absurd (dk_back.mpr d1) (hN _ _)
      | some w' =>
        obtain ⟨lo', hi'⟩ := w'
        have E2 : EndsP (Dk (rows3 (htR θ z) (htR θ zb) (htR θ za))) lo' hi' := S2
        obtain ⟨el, eh⟩ := flip_endsP E1 E2 fun x y _ _ _ => dk_back
        subst el eh
        obtain ⟨r1, r2, r3, rfl, r4, r5, r6⟩ := o2
        refine s_if (b := false) (et_test (ev_op (ev_var rfl) ev_c (rv_val fun H1 _ Q q => ⟨rfl, q⟩))) (fun z => Bool.noConfusion z) (fun _ H8 e8 => ?_)
        have X8 := X.ex e8
        refine ⟨_, rfl, X8.T, fun f c' H21 eN nn T21 f0 hf hc base' up clo => ?_⟩
        have tN : ∀ {p : Addr} {xs : List V}, H7 p = some (.tup xs) → H21 p = some (.tup xs) := fun h => eN _ _ (e8 _ _ h) fun _ z => by cases z
        have bag21 := bag_extN X8.B eN
        have w5 := ex_tN eN (ex_t e8 s5)
        have w6 := ex_tN eN (ex_t e8 s6)
        have w7 := ex_tN eN (ex_t e8 r5)
        have w8 := ex_tN eN (ex_t e8 r6)
        have u4 := tN s4
        have k4 := tN r4
        have Y : F8 K [(pt, lamQ)] H21 b l ns (50 * t + 43) pp tb pl pa pb z za zb θ := ⟨tN X.hp, X.cz, tN X.hl, tN X.ha, X.ca, tN X.hb, X.cb, (by obtain ⟨c0, d0, h1, h2, h3⟩ := X.th; exact ⟨c0, d0, tN h1, tN h2, tN h3⟩), X.bt, bag21.ext (Ex.refl _) (by omega), T21⟩
        refine ⟨s1, s2, s3, f, lo, hi, fun s => decide (DarkP θ z za zb s), _, ["_law_place", "_law_thing", "_law_line_here"], [some (.ref pp), some (.ref tb), some (.ref pl)], (fun ws vs H Q _ => ∃ v1 v2 v3 q, ws = [some v1, some v2, some v3] ∧ vs = [q] ∧ spDark K 32 mS [v1, v2, v3, q] H Q C8.E0), rfl, st_of u4, ⟨w5, bl⟩, ⟨w6, bh⟩, span_ofP E1 fun s hs => ⟨fun h => (dk_dark X.bt hs).mpr (of_decide_eq_true h), fun h => decide_eq_true ((dk_dark X.bt hs).mp h)⟩,
          ?LO, ?CC, ⟨hf, hc, fun q s H' Q' E' e' hq hs ret => ⟨_, _, _, _, rfl, rfl, pp, tb, pl, q, z, θ, za, zb, s, rfl, (Y.ex e').p, (Y.ex e').o, (Y.ex e').l2, hq, ret⟩⟩, fun H22 e22 => ⟨true, rfl, ite_F rfl ?_⟩⟩
        case LO => exact lok_3 (g := "_law_piece_dark") (x1 := "_law_place") (x2 := "_law_thing") (x3 := "_law_line_here") (y := "_law_share") rfl (fun _ _ us hl => match us, hl with | [_], _ => rfl) (NdefX.nscope_by (by rfl)) rfl rfl (OO base' up)
        case CC =>
          refine clo _ ["_law_place", "_law_thing", "_law_line_here"] [3, 4, 5] fun ok => ?_
          dsimp only
          refine caps_ns ok ?_ ?_ rfl
          · exact free_by (sc := defScope sLaw) (by decide +kernel)
          · decide +kernel
        clear clo
        replace Y := Y.ex e22
        have w5 := ex_t e22 w5
        have w6 := ex_t e22 w6
        have w7 := ex_t e22 w7
        have w8 := ex_t e22 w8
        have u4 := e22 _ _ u4
        have k4 := e22 _ _ k4
        refine s_when (b := false) (fun H23 e23 Q' q' => ?_) (fun z => Bool.noConfusion z) (fun _ H25 e25 => ⟨⟨_, _, _, _, _, _, _, _, rfl⟩, Y.B.ext e25 (by omega), Y.T.ext e25⟩)
        have w5 := ex_t e23 w5
        have w6 := ex_t e23 w6
        refine ⟨_, rfl, ?_⟩
        refine tup_in ?_
        refine elu_lcNT (K := K) (j := 11) (vs := [11]) (tl := tRevT K (tVar 6)) (te := tTup (tCons (tOp (rI0 fun i j => .int (i - j)) (tOp (rIxT K) (tVar 11) (tC (.int 1))) (tOp (rIxT K) (tVar 11) (tC (.int 0)))) (tCons (tOp (rIxT K) (tVar 11) (tC (.int 1))) tNil))) (σ := [some (.ref a), some (.ref b), some (.int (t : Int)), some (.ref pp), some (.ref tb), some (.ref pl), some (.ref s1), some (.ref r1), v8, v9, none, none]) (xs := [.ref s3, .ref s2]) (us := [prV (flipS hi), prV (flipS lo)]) (eu_revT (ev_var rfl) (st_of (e23 _ _ u4))) (by simp) rfl (fun _ => rfl) (fun i x u H24 e24 hx hu => ?_) H23 (Ex.refl _) _ fun Dl ps H24 nD e24 hDl hT => ?_
        · match i, hx, hu with
          | 0, hx, hu => cases hx; cases hu; exact eu_tup (ea_cons (ev_op (ev_ixt rfl (ex_t e24 w6) rfl) (ev_ixt rfl (ex_t e24 w6) rfl) rv_I0) (ea_cons (ev_ixt rfl (ex_t e24 w6) rfl) ea_nil)) (by show 2 ≤ 100000; decide)
          | 1, hx, hu => cases hx; cases hu; exact eu_tup (ea_cons (ev_op (ev_ixt rfl (ex_t e24 w5) rfl) (ev_ixt rfl (ex_t e24 w5) rfl) rv_I0) (ea_cons (ev_ixt rfl (ex_t e24 w5) rfl) ea_nil)) (by show 2 ≤ 100000; decide)
          | i + 2, hx, hu => cases hx
        obtain ⟨a1, a2, rfl⟩ : ∃ a1 a2, ps = [a1, a2] := match ps, hT.1 with
          | [a1, a2], _ => ⟨a1, a2, rfl⟩
        refine ⟨Dl, _, rfl, .inl ⟨sq_of hDl, fun tt htt => ?_⟩⟩
        have eN := Ex.new (o := .tup [V.ref a1, .ref a2]) htt
        have e2325 := e24.trans eN
        exact ⟨_, _, rfl, sm_tup2 (d := 0) (x := flipS hi) (y := flipS lo) (st_of ((e23.trans e2325) _ _ k4)) (st_of upd_same) (ex_t (e23.trans e2325) w7) (ex_t (e23.trans e2325) w8) (st_of (eN _ _ (hT.2 0 a1 _ rfl rfl))) (st_of (eN _ _ (hT.2 1 a2 _ rfl rfl))), fun H26 e26 => ⟨true, rfl, q' H26 (e2325.trans e26)⟩⟩
  · rintro σ' H2 ⟨⟨v2, v3, v4, v5, v6, v7, v8, v9, rfl⟩, B2, T2⟩
    exact s_ret ev_c fun H3 e3 => k H3
end
end Hs
namespace Hs
open PySem PySem.Spec PyProof.Rows L2 Evl
/-! ### the facts of the top -/
def dsCommon : He.DefD := ⟨("common_part", none), "common_part", "common_part", defArgs sCommon, defBody sCommon, defScope sCommon, [], []⟩
def dsFrac : He.DefD := ⟨("fraction", none), "fraction", "fraction", defArgs sFrac, defBody sFrac, defScope sFrac, [.int 1], []⟩
def dsOrder : He.DefD := ⟨("order", none), "order", "order", defArgs sOrder, defBody sOrder, defScope sOrder, [], []⟩
def dsHeight : He.DefD := ⟨("height", none), "height", "height", defArgs sHeight, defBody sHeight, defScope sHeight, [], []⟩
def dsBetw : He.DefD := ⟨("between", none), "between", "between", defArgs sBetw, defBody sBetw, defScope sBetw, [], []⟩
def dsCut : He.DefD := ⟨("cut", none), "cut", "cut", defArgs sCut, defBody sCut, defScope sCut, [], []⟩
def dsDown : He.DefD := ⟨("cut_down", none), "cut_down", "cut_down", defArgs sDown, defBody sDown, defScope sDown, [], []⟩
def dsEnds : He.DefD := ⟨("end_shares", none), "end_shares", "end_shares", defArgs sEnds, defBody sEnds, defScope sEnds, [], []⟩
def dsLean : He.DefD := ⟨("lean", none), "lean", "lean", defArgs sLean, defBody sLean, defScope sLean, [], []⟩
def dsBox : He.DefD := ⟨("box_around", none), "box_around", "box_around", defArgs sBox, defBody sBox, defScope sBox, [], []⟩
def dsHts : He.DefD := ⟨("block_heights", none), "block_heights", "block_heights", defArgs sHts, defBody sHts, defScope sHts, [], []⟩
def dsPhts : He.DefD := ⟨("piece_heights", none), "piece_heights", "piece_heights", defArgs sPhts, defBody sPhts, defScope sPhts, [], []⟩
def dsShade : He.DefD := ⟨("shade", none), "shade", "shade", defArgs sShade, defBody sShade, defScope sShade, [], []⟩
def dsPsd : He.DefD := ⟨("piece_shade", none), "piece_shade", "piece_shade", defArgs sPsd, defBody sPsd, defScope sPsd, [], []⟩
def dsBag : He.DefD := ⟨("_law_bag", none), "_law_bag", "_law_bag", defArgs sBag, defBody sBag, defScope sBag, [], []⟩
def dsPull : He.DefD := ⟨("_law_pull", none), "_law_pull", "_law_pull", defArgs sPull, defBody sPull, defScope sPull, [], []⟩
def dsInt : He.DefD := ⟨("_law_int", none), "_law_int", "_law_int", defArgs sInt, defBody sInt, defScope sInt, [], []⟩
def dsSame : He.DefD := ⟨("_law_same", none), "_law_same", "_law_same", defArgs sSame, defBody sSame, defScope sSame, [], []⟩
def dsGcd : He.DefD := ⟨("_law_gcd", none), "_law_gcd", "_law_gcd", defArgs sGcd, defBody sGcd, defScope sGcd, [], []⟩
def dsLow : He.DefD := ⟨("_law_low", none), "_law_low", "_law_low", defArgs sLow, defBody sLow, defScope sLow, [], []⟩
def dsBefore : He.DefD := ⟨("_law_before", none), "_law_before", "_law_before", defArgs sBefore, defBody sBefore, defScope sBefore, [], []⟩
def dsGrid : He.DefD := ⟨("_law_grid", none), "_law_grid", "_law_grid", defArgs sGrid, defBody sGrid, defScope sGrid, [], []⟩
def dsSpot : He.DefD := ⟨("_law_spot", none), "_law_spot", "_law_spot", defArgs sSpot, defBody sSpot, defScope sSpot, [], []⟩
def dsIsSh : He.DefD := ⟨("_law_is_share", none), "_law_is_share", "_law_is_share", defArgs sIsSh, defBody sIsSh, defScope sIsSh, [], []⟩
def dsHalf : He.DefD := ⟨("_law_half", none), "_law_half", "_law_half", defArgs sHalf, defBody sHalf, defScope sHalf, [], []⟩
def dsSpan : He.DefD := ⟨("_law_span_so", none), "_law_span_so", "_law_span_so", defArgs sSpan, defBody sSpan, defScope sSpan, [], []⟩
def dsOne : He.DefD := ⟨("_law_one", none), "_law_one", "_law_one", defArgs sOne, defBody sOne, defScope sOne, [], []⟩
def dsCross : He.DefD := ⟨("_law_cross", none), "_law_cross", "_law_cross", defArgs sCross, defBody sCross, defScope sCross, [], []⟩
def dsTouch : He.DefD := ⟨("_law_touch", none), "_law_touch", "_law_touch", defArgs sTouch, defBody sTouch, defScope sTouch, [], []⟩
def dsLcut : He.DefD := ⟨("_law_cut", none), "_law_cut", "_law_cut", defArgs sLcut, defBody sLcut, defScope sLcut, [], []⟩
def dsWider : He.DefD := ⟨("_law_wider", none), "_law_wider", "_law_wider", defArgs sWider, defBody sWider, defScope sWider, [], []⟩
def dsAt : He.DefD := ⟨("_law_at", none), "_law_at", "_law_at", defArgs sAt, defBody sAt, defScope sAt, [], []⟩
def dsOther : He.DefD := ⟨("_law_other_spot", none), "_law_other_spot", "_law_other_spot", defArgs sOther, defBody sOther, defScope sOther, [], []⟩
def dsWayTo : He.DefD := ⟨("_law_way_to", none), "_law_way_to", "_law_way_to", defArgs sWayTo, defBody sWayTo, defScope sWayTo, [], []⟩
def dsLine : He.DefD := ⟨("_law_line", none), "_law_line", "_law_line", defArgs sLine, defBody sLine, defScope sLine, [], []⟩
def dsSomeSh : He.DefD := ⟨("_law_some_shares", none), "_law_some_shares", "_law_some_shares", defArgs sSomeSh, defBody sSomeSh, defScope sSomeSh, [], []⟩
def dsScene : He.DefD := ⟨("_law_scene", none), "_law_scene", "_law_scene", defArgs sScene, defBody sScene, defScope sScene, [], []⟩
def dsDark : He.DefD := ⟨("_law_piece_dark", none), "_law_piece_dark", "_law_piece_dark", defArgs sDark, defBody sDark, defScope sDark, [], []⟩
def dsLaw : He.DefD := ⟨("law", none), "law", "law", defArgs sLaw, defBody sLaw, defScope sLaw, [], []⟩
def fn : List He.DefD := [dsCommon, dsFrac, dsOrder, dsHeight, dsBetw, dsCut, dsDown, dsEnds, dsLean, dsBox, dsHts, dsPhts, dsShade, dsPsd, dsBag, dsPull, dsInt, dsSame, dsGcd, dsLow, dsBefore, dsGrid, dsSpot, dsIsSh, dsHalf, dsSpan, dsOne, dsCross, dsTouch, dsLcut, dsWider, dsAt, dsOther, dsWayTo, dsLine, dsSomeSh, dsScene, dsDark, dsLaw]
def fa : List He.Fa := [.glo "common_part", .glo "fraction", .glo "order", .glo "height", .glo "between", .glo "cut", .glo "cut_down", .glo "end_shares", .glo "lean", .glo "box_around", .glo "block_heights", .glo "piece_heights", .glo "shade", .glo "piece_shade", .glo "_law_bag", .glo "_law_pull", .glo "_law_int", .glo "_law_same", .glo "_law_gcd", .glo "_law_low", .glo "_law_before", .glo "_law_grid", .glo "_law_spot", .glo "_law_is_share", .glo "_law_half", .glo "_law_span_so", .glo "_law_one", .glo "_law_cross", .glo "_law_touch", .glo "_law_cut", .glo "_law_wider", .glo "_law_at", .glo "_law_other_spot", .glo "_law_way_to", .glo "_law_line", .glo "_law_some_shares", .glo "_law_scene", .glo "_law_piece_dark", .glo "law", .free "len", .free "list", .free "int", .free "str", .free "bool", .free "tuple", .free "isinstance", .free "all", .free "range", .free "min", .free "max", .free "abs", .free "sum", .free "zip", .free "enumerate", .free "any"]
def exB (_ : PySem.W.Frag) : Bool := true
abbrev R : PySem.W.OpenRow := PySem.W.OpenLaw.row PySem.Challenge.rw_hueshade_k19_shades_of_pieces
abbrev hk : PySem.W.Hook := He.hookX 4 fa fn [] [("law", none)] exB
def ob (s : PySem.W.SharedT) : He.AlX := He.obsX 4 fa fn [] [("law", none)] exB (HandSHeadRun.getT s)
theorem ob_eq (s : PySem.W.SharedT) : ob s = hk.obs s.abs := He.obsX_eq (HandSHeadRun.getT_eq s)
abbrev others : List Str := [("__name__" : Str), ("ShadeError" : Str), ("Nought" : Str), ("common_part" : Str), ("fraction" : Str), ("order" : Str), ("height" : Str), ("between" : Str), ("cut" : Str), ("cut_down" : Str), ("end_shares" : Str), ("lean" : Str), ("box_around" : Str), ("block_heights" : Str), ("piece_heights" : Str), ("shade" : Str), ("piece_shade" : Str), ("_law_bag" : Str), ("_law_pull" : Str), ("_law_int" : Str), ("_law_same" : Str), ("_law_gcd" : Str), ("_law_low" : Str), ("_law_before" : Str), ("_law_grid" : Str), ("_law_spot" : Str), ("_law_is_share" : Str), ("_law_half" : Str), ("_law_span_so" : Str), ("_law_one" : Str), ("_law_cross" : Str), ("_law_touch" : Str), ("_law_cut" : Str), ("_law_wider" : Str), ("_law_at" : Str), ("_law_other_spot" : Str), ("_law_way_to" : Str), ("_law_line" : Str), ("_law_some_shares" : Str), ("_law_scene" : Str), ("_law_piece_dark" : Str)]
theorem run (w : World) : HandSHeadRun.RunEq R (PySem.W.view R.prog [46]) hk ob 5000 others w := by
  intro os
  kernel_rfl
end Hs
namespace Hs
open PySem PySem.Spec PyProof.Rows L2 Evl
theorem facts {P : Program} {w : World} {K : PySem.W.Frag} {h : Heap} {mg : Str → Option Value} {f : Addr} (X : K.In h) (G : h.Ns mainGlobals mg) (hfa : mg ("law" : Str) = some (.ref f)) (c : He.SaysX fa fn [] [("law", none)] exB w h K) :
    ∃ (fd : FuncData) (cc pt : Addr), h.get? pt = some { cls := .none, data := .fields #[] } ∧ K.lookup pt = none ∧ PySem.W.CodeHd h cc pt ∧ (∀ (s : Shared) (v : Value), BindsTo s fd ⟨[v], []⟩ [("_law_script", v)]) ∧
      ∀ base : Heap, LamX.TabB base mg cc pt → FnOk P w K mg base CX0 8 f fd ["_law_script"] (spLaw K [(pt, lamQ)]) := by
  have cd := c.t.d
  obtain ⟨fd_common_part, F_common_part⟩ : ∃ fd, FnP K "common_part" sCommon (He.ga K "common_part") fd := cd.def_ 0 (d := dsCommon) rfl
  have m_common_part := He.glo_ok X G (cd.fact 0 (f := .glo "common_part") rfl)
  obtain ⟨fd_fraction, F_fraction⟩ : ∃ fd, FunD K "fraction" "fraction" (defArgs sFrac) (defBody sFrac) (defScope sFrac) [.int 1] [] (He.ga K "fraction") fd := cd.def_ 1 (d := dsFrac) rfl
  have m_fraction := He.glo_ok X G (cd.fact 1 (f := .glo "fraction") rfl)
  obtain ⟨fd_order, F_order⟩ : ∃ fd, FnP K "order" sOrder (He.ga K "order") fd := cd.def_ 2 (d := dsOrder) rfl
  have m_order := He.glo_ok X G (cd.fact 2 (f := .glo "order") rfl)
  obtain ⟨fd_height, F_height⟩ : ∃ fd, FnP K "height" sHeight (He.ga K "height") fd := cd.def_ 3 (d := dsHeight) rfl
  have m_height := He.glo_ok X G (cd.fact 3 (f := .glo "height") rfl)
  obtain ⟨fd_between, F_between⟩ : ∃ fd, FnP K "between" sBetw (He.ga K "between") fd := cd.def_ 4 (d := dsBetw) rfl
  have m_between := He.glo_ok X G (cd.fact 4 (f := .glo "between") rfl)
  obtain ⟨fd_cut, F_cut⟩ : ∃ fd, FnP K "cut" sCut (He.ga K "cut") fd := cd.def_ 5 (d := dsCut) rfl
  have m_cut := He.glo_ok X G (cd.fact 5 (f := .glo "cut") rfl)
  obtain ⟨fd_cut_down, F_cut_down⟩ : ∃ fd, FnP K "cut_down" sDown (He.ga K "cut_down") fd := cd.def_ 6 (d := dsDown) rfl
  have m_cut_down := He.glo_ok X G (cd.fact 6 (f := .glo "cut_down") rfl)
  obtain ⟨fd_end_shares, F_end_shares⟩ : ∃ fd, FnP K "end_shares" sEnds (He.ga K "end_shares") fd := cd.def_ 7 (d := dsEnds) rfl
  have m_end_shares := He.glo_ok X G (cd.fact 7 (f := .glo "end_shares") rfl)
  obtain ⟨fd_lean, F_lean⟩ : ∃ fd, FnP K "lean" sLean (He.ga K "lean") fd := cd.def_ 8 (d := dsLean) rfl
  have m_lean := He.glo_ok X G (cd.fact 8 (f := .glo "lean") rfl)
  obtain ⟨fd_box_around, F_box_around⟩ : ∃ fd, FnP K "box_around" sBox (He.ga K "box_around") fd := cd.def_ 9 (d := dsBox) rfl
  have m_box_around := He.glo_ok X G (cd.fact 9 (f := .glo "box_around") rfl)
  obtain ⟨fd_block_heights, F_block_heights⟩ : ∃ fd, FnP K "block_heights" sHts (He.ga K "block_heights") fd := cd.def_ 10 (d := dsHts) rfl
  have m_block_heights := He.glo_ok X G (cd.fact 10 (f := .glo "block_heights") rfl)
  obtain ⟨fd_piece_heights, F_piece_heights⟩ : ∃ fd, FnP K "piece_heights" sPhts (He.ga K "piece_heights") fd := cd.def_ 11 (d := dsPhts) rfl
  have m_piece_heights := He.glo_ok X G (cd.fact 11 (f := .glo "piece_heights") rfl)
  obtain ⟨fd_shade, F_shade⟩ : ∃ fd, FnP K "shade" sShade (He.ga K "shade") fd := cd.def_ 12 (d := dsShade) rfl
  have m_shade := He.glo_ok X G (cd.fact 12 (f := .glo "shade") rfl)
  obtain ⟨fd_piece_shade, F_piece_shade⟩ : ∃ fd, FnP K "piece_shade" sPsd (He.ga K "piece_shade") fd := cd.def_ 13 (d := dsPsd) rfl
  have m_piece_shade := He.glo_ok X G (cd.fact 13 (f := .glo "piece_shade") rfl)
  obtain ⟨fd__law_bag, F__law_bag⟩ : ∃ fd, FnP K "_law_bag" sBag (He.ga K "_law_bag") fd := cd.def_ 14 (d := dsBag) rfl
  have m__law_bag := He.glo_ok X G (cd.fact 14 (f := .glo "_law_bag") rfl)
  obtain ⟨fd__law_pull, F__law_pull⟩ : ∃ fd, FnP K "_law_pull" sPull (He.ga K "_law_pull") fd := cd.def_ 15 (d := dsPull) rfl
  have m__law_pull := He.glo_ok X G (cd.fact 15 (f := .glo "_law_pull") rfl)
  obtain ⟨fd__law_int, F__law_int⟩ : ∃ fd, FnP K "_law_int" sInt (He.ga K "_law_int") fd := cd.def_ 16 (d := dsInt) rfl
  have m__law_int := He.glo_ok X G (cd.fact 16 (f := .glo "_law_int") rfl)
  obtain ⟨fd__law_same, F__law_same⟩ : ∃ fd, FnP K "_law_same" sSame (He.ga K "_law_same") fd := cd.def_ 17 (d := dsSame) rfl
  have m__law_same := He.glo_ok X G (cd.fact 17 (f := .glo "_law_same") rfl)
  obtain ⟨fd__law_gcd, F__law_gcd⟩ : ∃ fd, FnP K "_law_gcd" sGcd (He.ga K "_law_gcd") fd := cd.def_ 18 (d := dsGcd) rfl
  have m__law_gcd := He.glo_ok X G (cd.fact 18 (f := .glo "_law_gcd") rfl)
  obtain ⟨fd__law_low, F__law_low⟩ : ∃ fd, FnP K "_law_low" sLow (He.ga K "_law_low") fd := cd.def_ 19 (d := dsLow) rfl
  have m__law_low := He.glo_ok X G (cd.fact 19 (f := .glo "_law_low") rfl)
  obtain ⟨fd__law_before, F__law_before⟩ : ∃ fd, FnP K "_law_before" sBefore (He.ga K "_law_before") fd := cd.def_ 20 (d := dsBefore) rfl
  have m__law_before := He.glo_ok X G (cd.fact 20 (f := .glo "_law_before") rfl)
  obtain ⟨fd__law_grid, F__law_grid⟩ : ∃ fd, FnP K "_law_grid" sGrid (He.ga K "_law_grid") fd := cd.def_ 21 (d := dsGrid) rfl
  have m__law_grid := He.glo_ok X G (cd.fact 21 (f := .glo "_law_grid") rfl)
  obtain ⟨fd__law_spot, F__law_spot⟩ : ∃ fd, FnP K "_law_spot" sSpot (He.ga K "_law_spot") fd := cd.def_ 22 (d := dsSpot) rfl
  have m__law_spot := He.glo_ok X G (cd.fact 22 (f := .glo "_law_spot") rfl)
  obtain ⟨fd__law_is_share, F__law_is_share⟩ : ∃ fd, FnP K "_law_is_share" sIsSh (He.ga K "_law_is_share") fd := cd.def_ 23 (d := dsIsSh) rfl
  have m__law_is_share := He.glo_ok X G (cd.fact 23 (f := .glo "_law_is_share") rfl)
  obtain ⟨fd__law_half, F__law_half⟩ : ∃ fd, FnP K "_law_half" sHalf (He.ga K "_law_half") fd := cd.def_ 24 (d := dsHalf) rfl
  have m__law_half := He.glo_ok X G (cd.fact 24 (f := .glo "_law_half") rfl)
  obtain ⟨fd__law_span_so, F__law_span_so⟩ : ∃ fd, FnP K "_law_span_so" sSpan (He.ga K "_law_span_so") fd := cd.def_ 25 (d := dsSpan) rfl
  have m__law_span_so := He.glo_ok X G (cd.fact 25 (f := .glo "_law_span_so") rfl)
  obtain ⟨fd__law_one, F__law_one⟩ : ∃ fd, FnP K "_law_one" sOne (He.ga K "_law_one") fd := cd.def_ 26 (d := dsOne) rfl
  have m__law_one := He.glo_ok X G (cd.fact 26 (f := .glo "_law_one") rfl)
  obtain ⟨fd__law_cross, F__law_cross⟩ : ∃ fd, FnP K "_law_cross" sCross (He.ga K "_law_cross") fd := cd.def_ 27 (d := dsCross) rfl
  have m__law_cross := He.glo_ok X G (cd.fact 27 (f := .glo "_law_cross") rfl)
  obtain ⟨fd__law_touch, F__law_touch⟩ : ∃ fd, FnP K "_law_touch" sTouch (He.ga K "_law_touch") fd := cd.def_ 28 (d := dsTouch) rfl
  have m__law_touch := He.glo_ok X G (cd.fact 28 (f := .glo "_law_touch") rfl)
  obtain ⟨fd__law_cut, F__law_cut⟩ : ∃ fd, FnP K "_law_cut" sLcut (He.ga K "_law_cut") fd := cd.def_ 29 (d := dsLcut) rfl
  have m__law_cut := He.glo_ok X G (cd.fact 29 (f := .glo "_law_cut") rfl)
  obtain ⟨fd__law_wider, F__law_wider⟩ : ∃ fd, FnP K "_law_wider" sWider (He.ga K "_law_wider") fd := cd.def_ 30 (d := dsWider) rfl
  have m__law_wider := He.glo_ok X G (cd.fact 30 (f := .glo "_law_wider") rfl)
  obtain ⟨fd__law_at, F__law_at⟩ : ∃ fd, FnP K "_law_at" sAt (He.ga K "_law_at") fd := cd.def_ 31 (d := dsAt) rfl
  have m__law_at := He.glo_ok X G (cd.fact 31 (f := .glo "_law_at") rfl)
  obtain ⟨fd__law_other_spot, F__law_other_spot⟩ : ∃ fd, FnP K "_law_other_spot" sOther (He.ga K "_law_other_spot") fd := cd.def_ 32 (d := dsOther) rfl
  have m__law_other_spot := He.glo_ok X G (cd.fact 32 (f := .glo "_law_other_spot") rfl)
  obtain ⟨fd__law_way_to, F__law_way_to⟩ : ∃ fd, FnP K "_law_way_to" sWayTo (He.ga K "_law_way_to") fd := cd.def_ 33 (d := dsWayTo) rfl
  have m__law_way_to := He.glo_ok X G (cd.fact 33 (f := .glo "_law_way_to") rfl)
  obtain ⟨fd__law_line, F__law_line⟩ : ∃ fd, FnP K "_law_line" sLine (He.ga K "_law_line") fd := cd.def_ 34 (d := dsLine) rfl
  have m__law_line := He.glo_ok X G (cd.fact 34 (f := .glo "_law_line") rfl)
  obtain ⟨fd__law_some_shares, F__law_some_shares⟩ : ∃ fd, FnP K "_law_some_shares" sSomeSh (He.ga K "_law_some_shares") fd := cd.def_ 35 (d := dsSomeSh) rfl
  have m__law_some_shares := He.glo_ok X G (cd.fact 35 (f := .glo "_law_some_shares") rfl)
  obtain ⟨fd__law_scene, F__law_scene⟩ : ∃ fd, FnP K "_law_scene" sScene (He.ga K "_law_scene") fd := cd.def_ 36 (d := dsScene) rfl
  have m__law_scene := He.glo_ok X G (cd.fact 36 (f := .glo "_law_scene") rfl)
  obtain ⟨fd__law_piece_dark, F__law_piece_dark⟩ : ∃ fd, FnP K "_law_piece_dark" sDark (He.ga K "_law_piece_dark") fd := cd.def_ 37 (d := dsDark) rfl
  have m__law_piece_dark := He.glo_ok X G (cd.fact 37 (f := .glo "_law_piece_dark") rfl)
  obtain ⟨fd_law, F_law⟩ : ∃ fd, FnP K "law" sLaw (He.ga K "law") fd := cd.def_ 38 (d := dsLaw) rfl
  have m_law := He.glo_ok X G (cd.fact 38 (f := .glo "law") rfl)
  have g_len := He.free_ok X G (cd.fact 39 (f := .free "len") rfl)
  have g_list := He.free_ok X G (cd.fact 40 (f := .free "list") rfl)
  have g_int := He.free_ok X G (cd.fact 41 (f := .free "int") rfl)
  have g_str := He.free_ok X G (cd.fact 42 (f := .free "str") rfl)
  have g_bool := He.free_ok X G (cd.fact 43 (f := .free "bool") rfl)
  have g_tuple := He.free_ok X G (cd.fact 44 (f := .free "tuple") rfl)
  have g_isinstance := He.free_ok X G (cd.fact 45 (f := .free "isinstance") rfl)
  have g_all := He.free_ok X G (cd.fact 46 (f := .free "all") rfl)
  have g_range := He.free_ok X G (cd.fact 47 (f := .free "range") rfl)
  have g_min := He.free_ok X G (cd.fact 48 (f := .free "min") rfl)
  have g_max := He.free_ok X G (cd.fact 49 (f := .free "max") rfl)
  have g_abs := He.free_ok X G (cd.fact 50 (f := .free "abs") rfl)
  have g_sum := He.free_ok X G (cd.fact 51 (f := .free "sum") rfl)
  have g_zip := He.free_ok X G (cd.fact 52 (f := .free "zip") rfl)
  have g_enumerate := He.free_ok X G (cd.fact 53 (f := .free "enumerate") rfl)
  have g_any := He.free_ok X G (cd.fact 54 (f := .free "any") rfl)
  have ef : f = He.ga K "law" := by
    have e := hfa.symm.trans m_law
    cases e
    rfl
  subst ef
  have hb := FunD.bindsA (ps := ["_law_script"]) F_law (fun _ _ _ _ _ _ us hl => match us, hl with | [_], _ => rfl)
  obtain ⟨oc, od, dV, kV, doc, pm, an, cdv, ctt, osl, rfl, lk, hcd, _, _⟩ := F_law.ex
  obtain ⟨cc, rfl⟩ := He.codeIn_ref hcd
  have ecc : He.codeOf K ("law", none) = cc := He.codeOf_eq (p := ("law", none)) lk rfl
  refine ⟨_, cc, He.tabOf K cc, ?_, ?_, ?_, fun s v => hb s [v] rfl, fun base TB => ?_⟩
  · have z := c.empty ("law", none) (List.mem_singleton.mpr rfl)
    rw [← ecc]
    exact z
  · have z := c.out ("law", none) (List.mem_singleton.mpr rfl)
    rw [← ecc]
    exact z
  · have z := c.hd ("law", none) (List.mem_singleton.mpr rfl)
    rw [← ecc]
    exact PySem.W.codeHd_of_K X z
  have A_common_part : ∀ base : Heap, _ := fun base => own_of F_common_part m_common_part (ok_common (P := P) (w := w) (mg := mg) (base := base) F_common_part g_abs) (fun _ _ _ _ _ _ us hl => match us, hl with | [_, _], _ => rfl)
  obtain ⟨ds1, v1, b1⟩ : ∃ ds, Vals ([V.int 1].drop 1) ds ∧ Binds K fd_fraction ["top", "bottom"] ds := F_fraction.binds1 2 1 (by simp) rfl fun T kV doc pm an cdv ct us its hl hi => match us, its, hl, hi with
    | [_, _], [_], _, _ => ⟨_, rfl, rfl⟩
  cases v1
  have A_fraction : ∀ base : Heap, Own P w K mg base 2 "fraction" ["top", "bottom"] spFracP := fun base => ⟨_, _, ok_fracP F_fraction (A_common_part base), m_fraction, F_fraction.kp, b1⟩
  have A_order : ∀ base : Heap, _ := fun base => own_of F_order m_order (ok_order (n := bq 67 6 + 1) (P := P) (w := w) (mg := mg) (base := base) F_order (by decide)) (fun _ _ _ _ _ _ us hl => match us, hl with | [_, _], _ => rfl)
  have FC : ∀ base : Heap, FnOk P w K mg base CX0 3 (He.ga K "cut") fd_cut ["points", "heights"] (spCutX K 3 67 2300) := fun base => fnok_ex fun n hn => ok_cut (k := 3) F_cut (own_of F_height m_height (ok_height (n := n) (m := 67) F_height g_sum g_zip (by omega)) (fun _ _ _ _ _ _ us hl => match us, hl with | [_, _], _ => rfl)) (own_of F_between m_between (ok_betw (n := n) (m := n + 67 + 2) F_between (A_common_part base) g_abs g_zip g_tuple (by omega)) (fun _ _ _ _ _ _ us hl => match us, hl with | [_, _, _, _], _ => rfl)) g_enumerate (by decide) (by omega)
  have A_cut : ∀ base : Heap, _ := fun base => own_of F_cut m_cut (FC base) (fun _ _ _ _ _ _ us hl => match us, hl with | [_, _], _ => rfl)
  have A_cut_down : ∀ base : Heap, _ := fun base => own_of F_cut_down m_cut_down (ok_down3 (m := 67) (N := 2300) (q := 6) F_cut_down (A_cut base) g_zip (by decide) (by decide)) (fun _ _ _ _ _ _ us hl => match us, hl with | [_, _], _ => rfl)
  have A_end_shares : ∀ base : Heap, _ := fun base => own_of F_end_shares m_end_shares (ok_ends (n := bq 67 6) F_end_shares (A_fraction base) (A_order base) (by decide)) (fun _ _ _ _ _ _ us hl => match us, hl with | [_], _ => rfl)
  have A_shade : ∀ base : Heap, _ := fun base => own_of F_shade m_shade (ok_shade (m := 67) (q := 6) F_shade (A_cut_down base) (A_end_shares base) g_min (by decide)) (fun _ _ _ _ _ _ us hl => match us, hl with | [_], _ => rfl)
  have A_lean : ∀ base : Heap, _ := fun base => own_of F_lean m_lean (ok_lean (n := 32) (P := P) (w := w) (mg := mg) (base := base) F_lean (by decide)) (fun _ _ _ _ _ _ us hl => match us, hl with | [_, _, _], _ => rfl)
  have A_box_around : ∀ base : Heap, _ := fun base => own_of F_box_around m_box_around (ok_box (n := 32) (P := P) (w := w) (mg := mg) (base := base) F_box_around g_min g_max) (fun _ _ _ _ _ _ us hl => match us, hl with | [_], _ => rfl)
  have A_block_heights : ∀ base : Heap, _ := fun base => own_of F_block_heights m_block_heights (ok_hts (n := 32) (P := P) (w := w) (mg := mg) (base := base) F_block_heights) (fun _ _ _ _ _ _ us hl => match us, hl with | [_, _], _ => rfl)
  have A_piece_heights : ∀ base : Heap, _ := fun base => own_of F_piece_heights m_piece_heights (ok_phts F_piece_heights (A_lean base) (A_box_around base) (A_block_heights base)) (fun _ _ _ _ _ _ us hl => match us, hl with | [_, _], _ => rfl)
  have A_piece_shade : ∀ base : Heap, _ := fun base => own_of F_piece_shade m_piece_shade (ok_psd F_piece_shade (A_shade base) (A_piece_heights base) (by decide)) (fun _ _ _ _ _ _ us hl => match us, hl with | [_, _, _], _ => rfl)
  have A__law_pull : ∀ base : Heap, _ := fun base => own_of F__law_pull m__law_pull (ok_pull (P := P) (w := w) (mg := mg) (base := base) F__law_pull g_len) (fun _ _ _ _ _ _ us hl => match us, hl with | [_, _], _ => rfl)
  have A__law_bag : ∀ base : Heap, _ := fun base => own_of F__law_bag m__law_bag (ok_bag (P := P) (w := w) (mg := mg) (base := base) F__law_bag g_len g_list) (fun _ _ _ _ _ _ us hl => match us, hl with | [_], _ => rfl)
  have A__law_same : ∀ base : Heap, _ := fun base => own_of F__law_same m__law_same (ok_same (P := P) (w := w) (mg := mg) (base := base) F__law_same m__law_same g_len g_isinstance g_bool g_int g_str g_list g_tuple g_all g_range 3) (fun _ _ _ _ _ _ us hl => match us, hl with | [_, _], _ => rfl)
  have A__law_gcd : ∀ base : Heap, _ := fun base => own_of F__law_gcd m__law_gcd (ok_gcd (P := P) (w := w) (mg := mg) (base := base) F__law_gcd g_abs) (fun _ _ _ _ _ _ us hl => match us, hl with | [_, _], _ => rfl)
  have A__law_low : ∀ base : Heap, _ := fun base => own_of F__law_low m__law_low (ok_low F__law_low (A__law_gcd base)) (fun _ _ _ _ _ _ us hl => match us, hl with | [_, _], _ => rfl)
  have A__law_before : ∀ base : Heap, _ := fun base => own_of F__law_before m__law_before (ok_before (n := 4475) (P := P) (w := w) (mg := mg) (base := base) F__law_before g_int (by decide)) (fun _ _ _ _ _ _ us hl => match us, hl with | [_, _], _ => rfl)
  have A__law_int : ∀ base : Heap, _ := fun base => own_of F__law_int m__law_int (ok_int (P := P) (w := w) (mg := mg) (base := base) F__law_int g_isinstance g_bool g_int) (fun _ _ _ _ _ _ us hl => match us, hl with | [_], _ => rfl)
  have A__law_is_share : ∀ base : Heap, _ := fun base => own_of F__law_is_share m__law_is_share (ok_isSh (n := 4475) F__law_is_share (A__law_int base) (A__law_gcd base) g_isinstance g_tuple g_len) (fun _ _ _ _ _ _ us hl => match us, hl with | [_], _ => rfl)
  have A__law_half : ∀ base : Heap, _ := fun base => own_of F__law_half m__law_half (ok_half (n := 4475) F__law_half (A__law_low base) (by decide)) (fun _ _ _ _ _ _ us hl => match us, hl with | [_, _], _ => rfl)
  have A__law_grid : ∀ base : Heap, _ := fun base => own_of F__law_grid m__law_grid (ok_grid F__law_grid (A__law_pull base)) (fun _ _ _ _ _ _ us hl => match us, hl with | [_], _ => rfl)
  have A__law_spot : ∀ base : Heap, _ := fun base => own_of F__law_spot m__law_spot (ok_spot F__law_spot (A__law_pull base)) (fun _ _ _ _ _ _ us hl => match us, hl with | [_, _], _ => rfl)
  have A__law_other_spot : ∀ base : Heap, _ := fun base => own_of F__law_other_spot m__law_other_spot (ok_other F__law_other_spot (A__law_spot base)) (fun _ _ _ _ _ _ us hl => match us, hl with | [_, _, _], _ => rfl)
  have A__law_line : ∀ base : Heap, _ := fun base => own_of F__law_line m__law_line (ok_line F__law_line (A__law_spot base) (A__law_other_spot base)) (fun _ _ _ _ _ _ us hl => match us, hl with | [_, _], _ => rfl)
  have A__law_some_shares : ∀ base : Heap, _ := fun base => own_of F__law_some_shares m__law_some_shares (ok_someSh F__law_some_shares (A__law_pull base) (A__law_low base)) (fun _ _ _ _ _ _ us hl => match us, hl with | [_], _ => rfl)
  have A__law_one : ∀ base : Heap, _ := fun base => own_of F__law_one m__law_one (ok_one F__law_one (A__law_pull base) g_len) (fun _ _ _ _ _ _ us hl => match us, hl with | [_, _], _ => rfl)
  have A__law_wider : ∀ base : Heap, _ := fun base => own_of F__law_wider m__law_wider (ok_wider (n := 22) (m := 10) (P := P) (w := w) (mg := mg) (base := base) F__law_wider (by decide)) (fun _ _ _ _ _ _ us hl => match us, hl with | [_, _], _ => rfl)
  have AW : ∀ base : Heap, _ := fun base => own_of F__law_wider m__law_wider (ok_wider (n := 32) (m := 8952) (P := P) (w := w) (mg := mg) (base := base) F__law_wider (by decide)) (fun _ _ _ _ _ _ us hl => match us, hl with | [_, _], _ => rfl)
  have A__law_at : ∀ base : Heap, _ := fun base => own_of F__law_at m__law_at (ok_at (n := 32) (m := 8952) (P := P) (w := w) (mg := mg) (base := base) F__law_at (by decide)) (fun _ _ _ _ _ _ us hl => match us, hl with | [_, _], _ => rfl)
  have A__law_way_to : ∀ base : Heap, _ := fun base => own_of F__law_way_to m__law_way_to (ok_wayTo F__law_way_to (AW base) (A__law_at base)) (fun _ _ _ _ _ _ us hl => match us, hl with | [_, _, _], _ => rfl)
  have A__law_cross : ∀ base : Heap, _ := fun base => own_of F__law_cross m__law_cross (ok_cross (n := 8986) (P := P) (w := w) (mg := mg) (base := base) F__law_cross (by decide)) (fun _ _ _ _ _ _ us hl => match us, hl with | [_, _, _], _ => rfl)
  have A__law_touch : ∀ base : Heap, _ := fun base => own_of F__law_touch m__law_touch (ok_touch F__law_touch (A__law_cross base) g_min g_max) (fun _ _ _ _ _ _ us hl => match us, hl with | [_, _, _], _ => rfl)
  have A__law_cut : ∀ base : Heap, _ := fun base => own_of F__law_cut m__law_cut (ok_lcut F__law_cut (A__law_cross base) (A__law_touch base) (by decide)) (fun _ _ _ _ _ _ us hl => match us, hl with | [_, _, _, _], _ => rfl)
  have A__law_piece_dark : ∀ base : Heap, _ := fun base => own_of F__law_piece_dark m__law_piece_dark (ok_dark F__law_piece_dark (A__law_way_to base) (AW base) (A__law_cut base) (by decide)) (fun _ _ _ _ _ _ us hl => match us, hl with | [_, _, _, _], _ => rfl)
  have A__law_scene : ∀ base : Heap, _ := fun base => own_of F__law_scene m__law_scene (ok_scene F__law_scene (A__law_pull base) (A__law_grid base) (A__law_spot base) (A__law_line base) (A__law_other_spot base) (A__law_one base) (A__law_wider base) g_tuple g_int g_list) (fun _ _ _ _ _ _ us hl => match us, hl with | [_], _ => rfl)
  have A__law_span_so : ∀ base : Heap, _ := fun base => own_of F__law_span_so m__law_span_so (ok_span (k := 6) (n := 4475) (m := 8952) F__law_span_so (A__law_is_share base) (A__law_before base) (A__law_half base) (A__law_low base) g_isinstance g_tuple g_len g_any (by decide) (by decide) (by decide)) (fun _ _ _ _ _ _ us hl => match us, hl with | [_, _], _ => rfl)
  refine L2.fn_of lk hcd scLaw (fun vs H Q E h => ?_) (fun A outer s H vs Q E hr h => law_body hr (A__law_bag base) (A__law_scene base) (A__law_some_shares base) (A__law_same base) (A_piece_shade base) (A__law_piece_dark base) (fun base' _ => A__law_span_so base') (fun base' _ => A__law_piece_dark base') TB g_range g_tuple g_any h)
  obtain ⟨a, ns, rfl, _⟩ := h
  rfl
end Hs
open PySem PySem.W PySem.Calls PyProof.Rows
theorem PySem.Challenge.cw_hueshade_k19_shades_of_pieces_holds : PySem.Challenge.rw_hueshade_k19_shades_of_pieces.Holds := by
  w_on; o_law
  refine HandSHeadRun.head_any (r := OpenLaw.row PySem.Challenge.rw_hueshade_k19_shades_of_pieces) (q := view (OpenLaw.row PySem.Challenge.rw_hueshade_k19_shades_of_pieces).prog [46]) (H := Hs.hk) (ob := Hs.ob) (M := 5000) (loose := Hs.others) (d := HandSHeadRun.topDef (OpenLaw.row PySem.Challenge.rw_hueshade_k19_shades_of_pieces).prog 46) (kwd := []) Hs.ob_eq
    (by kernel_rfl) (fun s => by kernel_rfl) Hs.run (by kernel_rfl) (by kernel_rfl) (by kernel_rfl) (by rfl) (by first | assumption | decide +kernel) (by decide +kernel) ⟨rfl, rfl, rfl, rfl, rfl, by decide +kernel⟩ ?hw ?hc
  case hw => w_witness2
  case hc =>
    refine LamX.walk_ofTsE (l := PySem.Challenge.rw_hueshade_k19_shades_of_pieces) (n := 63) (k := 8) (x := "_law_script") (CX := fun _ => L2.CX0) rfl (by decide) (by kernel_rfl) ⟨rfl, by decide, by decide⟩ ?F (fun _ _ _ _ _ z => z)
    intro w mg fa h Y G hmg0
    obtain ⟨K, KX, c⟩ := Y
    have hmg : mg ("law" : PySem.Str) = some (.ref fa) := by
      have e : (HandSHeadRun.topDef (OpenLaw.row PySem.Challenge.rw_hueshade_k19_shades_of_pieces).prog 46).name = ("law" : PySem.Str) := by kernel_rfl
      rw [← e]
      exact hmg0
    obtain ⟨fd, cc, pt, h1, h2, h3, hb, hF⟩ := Hs.facts (P := (PySem.Challenge.rw_hueshade_k19_shades_of_pieces).prog) (w := w) KX G hmg c
    refine ⟨K, KX, fd, [(cc, pt)], Hs.spLaw K [(pt, Hs.lamQ)], fun p hp => ?_, fun p hp => ?_, fun p hp => ?_, hb, fun H a ns hl _ hT hS => ⟨a, ns, rfl, hS, hl, fun p hp => ?_, fun _ => rfl⟩, fun base _ _ hB => hF base (hB (cc, pt) (List.mem_singleton.mpr rfl))⟩
    · rw [List.mem_singleton.mp hp]
      exact h1
    · rw [List.mem_singleton.mp hp]
      exact h2
    · rw [List.mem_singleton.mp hp]
      exact h3
    · rw [List.mem_singleton.mp hp]
      exact LamX.TabS.nil (hT (cc, pt) (List.mem_singleton.mpr rfl))
