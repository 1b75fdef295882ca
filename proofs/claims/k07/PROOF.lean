import PyProof.Rows.All
import Wide.All
import OpenK.AllK
import Wide.FinOn
import HandS.ForMost
import HandS.ForExc
import HandS.Wide
import HandS.IsInst
import HandS.Lambda
import HandS.Defaults
import HandS.Evl
import HandS.Codes
import HandS.Style
import HandS.More
import HandS.FStr
import HandS.TryMany
import HandS.ExcField
import HandS.NoneIn
import HandS.ExcInit
import HandS.ExcSuper
import KE.KExcSuper
import HandS.Nested
import HandS.Head0
import HandS.Head1
import HandS.Head2
import HandS.HeadEnd
import HandS.HeadHook1
import HandS.HeadHook2
import HandS.HeadHook3
import HandS.HeadHook4
import HandS.HeadWalk
import PySem.Challenge.RW_hueshade_k07_fractions
set_option Elab.async false
set_option linter.all false
set_option maxRecDepth 100000
set_option maxHeartbeats 0
namespace Hs
/-! ### fractions in lowest terms -/
/-- the common part, with the sign of the bottom -/
def sg (a b : Int) : Int := if b < 0 then -(Int.gcd a b : Int) else (Int.gcd a b : Int)
def low (a b : Int) : Int × Int := (a.fdiv (sg a b), b.fdiv (sg a b))
theorem gcd_pos {a b : Int} (h : b ≠ 0) : 0 < Int.gcd a b := Int.gcd_pos_of_ne_zero_right a h
theorem sg_ne {a b : Int} (h : b ≠ 0) : sg a b ≠ 0 := by
  have := gcd_pos (a := a) h
  unfold sg
  split <;> omega
theorem sg_abs {a b : Int} : (sg a b).natAbs = Int.gcd a b := by
  unfold sg
  split <;> omega
theorem sg_dvd_left (a b : Int) : sg a b ∣ a := by
  unfold sg
  split
  · exact Int.neg_dvd.mpr (Int.gcd_dvd_left ..)
  · exact Int.gcd_dvd_left ..
theorem sg_dvd_right (a b : Int) : sg a b ∣ b := by
  unfold sg
  split
  · exact Int.neg_dvd.mpr (Int.gcd_dvd_right ..)
  · exact Int.gcd_dvd_right ..
theorem low_1 (a b : Int) : a = sg a b * (low a b).1 := by
  have h := sg_dvd_left a b
  show a = sg a b * a.fdiv (sg a b)
  rw [Int.fdiv_eq_ediv_of_dvd h, Int.mul_ediv_cancel' h]
theorem low_2 (a b : Int) : b = sg a b * (low a b).2 := by
  have h := sg_dvd_right a b
  show b = sg a b * b.fdiv (sg a b)
  rw [Int.fdiv_eq_ediv_of_dvd h, Int.mul_ediv_cancel' h]
theorem low_of {a b g x y : Int} (h : b ≠ 0) (hg : sg a b = g) (ha : a = g * x) (hb : b = g * y) : low a b = (x, y) := by
  have h1 := low_1 a b
  have h2 := low_2 a b
  have hn : g ≠ 0 := by
    rw [← hg]
    exact sg_ne h
  rw [hg] at h1 h2
  have e1 : (low a b).1 = x := Int.eq_of_mul_eq_mul_left hn (h1.symm.trans ha)
  have e2 : (low a b).2 = y := Int.eq_of_mul_eq_mul_left hn (h2.symm.trans hb)
  rw [← e1, ← e2]
theorem low_pos {a b : Int} (h : b ≠ 0) : 0 < (low a b).2 := by
  have h2 := low_2 a b
  have hp := gcd_pos (a := a) h
  by_cases hb : b < 0
  · have e : sg a b = -(Int.gcd a b : Int) := if_pos hb
    rw [e] at h2
    apply Decidable.byContradiction
    intro hn
    have : 0 ≤ -(Int.gcd a b : Int) * (low a b).2 := by
      have := Int.mul_nonneg_of_nonpos_of_nonpos (a := -(Int.gcd a b : Int)) (b := (low a b).2) (by omega) (by omega)
      exact this
    omega
  · have e : sg a b = (Int.gcd a b : Int) := if_neg hb
    rw [e] at h2
    apply Decidable.byContradiction
    intro hn
    have : (Int.gcd a b : Int) * (low a b).2 ≤ 0 := Int.mul_nonpos_of_nonneg_of_nonpos (by omega) (by omega)
    omega
theorem low_b1 {a b : Int} (h : b ≠ 0) : (low a b).1.natAbs ≤ a.natAbs := by
  have h1 := congrArg Int.natAbs (low_1 a b)
  rw [Int.natAbs_mul, sg_abs] at h1
  rw [h1]
  exact Nat.le_mul_of_pos_left _ (gcd_pos h)
theorem low_b2 {a b : Int} (h : b ≠ 0) : (low a b).2.natAbs ≤ b.natAbs := by
  have h1 := congrArg Int.natAbs (low_2 a b)
  rw [Int.natAbs_mul, sg_abs] at h1
  have h2 := Nat.le_mul_of_pos_left (low a b).2.natAbs (gcd_pos (a := a) h)
  omega
theorem sg_mul {k a b : Int} (hk : k ≠ 0) (h : b ≠ 0) : sg (k * a) (k * b) = k * sg a b := by
  unfold sg
  rw [Int.gcd_mul_left, Int.natCast_mul]
  by_cases h1 : 0 < k
  · have e : (k.natAbs : Int) = k := by omega
    rw [e]
    by_cases h2 : b < 0
    · have : k * b < 0 := Int.mul_neg_of_pos_of_neg h1 h2
      rw [if_pos this, if_pos h2, Int.mul_neg]
    · have : 0 ≤ k * b := Int.mul_nonneg (by omega) (by omega)
      rw [if_neg (by omega), if_neg h2]
  · have e : (k.natAbs : Int) = -k := by omega
    rw [e]
    by_cases h2 : b < 0
    · have : 0 ≤ k * b := Int.mul_nonneg_of_nonpos_of_nonpos (by omega) (by omega)
      rw [if_neg (by omega), if_pos h2, Int.mul_neg, Int.neg_mul]
    · have : k * b < 0 := Int.mul_neg_of_neg_of_pos (by omega) (by omega)
      rw [if_pos this, if_neg h2, Int.neg_mul, Int.neg_neg]
theorem low_scale {k a b : Int} (hk : k ≠ 0) (h : b ≠ 0) : low (k * a) (k * b) = low a b := by
  have hkb : k * b ≠ 0 := Int.mul_ne_zero hk h
  refine low_of hkb (sg_mul hk h) ?_ ?_
  · rw [Int.mul_assoc]
    exact congrArg (k * ·) (low_1 a b)
  · rw [Int.mul_assoc]
    exact congrArg (k * ·) (low_2 a b)
theorem low_one (a : Int) : low a 1 = (a, 1) := by
  have e : sg a 1 = 1 := by
    unfold sg
    rw [if_neg (by decide), Int.gcd_one_right] <;> rfl
  exact low_of (by decide) e (by omega) (by omega)
/-- the middle: the half of a sum in lowest terms -/
theorem low_half {x y : Int} (h : y ≠ 0) : low ((low x y).1 * 1) ((low x y).2 * 2) = low x (2 * y) := by
  have h1 := low_1 x y
  have h2 := low_2 x y
  have hp := low_pos (a := x) h
  have e : low x (2 * y) = low (sg x y * ((low x y).1 * 1)) (sg x y * ((low x y).2 * 2)) := by
    congr 1
    · rw [Int.mul_one]
      exact h1
    · rw [← Int.mul_assoc, ← h2, Int.mul_comm]
  rw [e]
  exact (low_scale (sg_ne h) (by omega)).symm
end Hs
namespace Hs
open PySem PySem.Spec PyProof.Rows L2 Evl
/-! ### own words -/
/-- // by any divisor but nought, below 2 ^ 9000 -/
def CDivG (_ j : Int) : Prop := j ≠ 0 ∧ j.natAbs.log2 < 9000
theorem op_fdivG {X : Cx} : OpR X (binaryOp .FloorDiv) (rI CDivG fun i j => .int (i.fdiv j)) := opI fun i j _ _ _ _ _ hc q => floordiv_int hc.1 q (.inl (PyProof.noPylong_of_log2 hc.2))
theorem divG {i j : Int} {b : Nat} (h : j ≠ 0) (hb : j.natAbs < 2 ^ b) (h0 : 0 < b) (h9 : b ≤ 9000) : CDivG i j := ⟨h, Nat.lt_of_lt_of_le (PySem.Flt.log2_lt_of h0 hb) h9⟩
theorem mul64 {i j : Int} (ha : i.natAbs < 2 ^ 64) (hb : j.natAbs < 2 ^ 64) : CMulW i j := wide_mul ha hb (by decide) (by decide) (by decide)
theorem modP {i j : Int} (h : 0 < j) : 0 ≤ i.fmod j ∧ i.fmod j < j := by
  rw [Int.fmod_eq_emod_of_nonneg i (Int.le_of_lt h)]
  exact ⟨Int.emod_nonneg i (by omega), Int.emod_lt_of_pos i h⟩
/-- an own def by its promise -/
structure Own (P : Program) (w : World) (K : PySem.W.Frag) (mg : Str → Option Value) (base : Heap) (k : Nat) (x : Str) (ps : List Str) (sp : Sp) : Prop where
  ex : ∃ (f : Addr) (fd : FuncData), FnOk P w K mg base CX0 k f fd ps sp ∧ mg x = some (.ref f) ∧ PySem.W.keepIn K (.ref f) = true ∧ Binds K fd ps []
theorem pe_own {X : Cx} {k j : Nat} {x : Str} {ps : List Str} {sp : Sp} {e : Expr} {es : List Expr} {t : TA} {p pos : Pos} (O : Own X.prog X.w X.K X.mg X.base k x ps sp) (hr : Room j X.A) (hk : k ≤ j) (hg : Gl X x) (ha : PA X (e :: es) t)
    (hdb : (x == ("__debug__" : Str)) = false := by decide) (he : starEach (e :: es) X.env = (false, eval e X.env) :: starEach es X.env := by rfl) (hpl : (backTo pos (starEach es X.env)).any (·.1) = false := by rfl) :
    PE X (.Call (.Name x p) (e :: es) [] pos) (tCall sp [] E0 t) := by
  obtain ⟨f, fd, F, m, kp, b⟩ := O.ex
  exact pe_call F (hr.mono hk) hg m kp b .nil pass0 ha hdb he hpl
abbrev FnP (K : PySem.W.Frag) (x : Str) (st : Stmt) (f : Addr) (fd : FuncData) : Prop := FunD K x x (defArgs st) (defBody st) (defScope st) [] [] f fd
theorem own_of {P : Program} {w : World} {K : PySem.W.Frag} {mg : Str → Option Value} {base : Heap} {k : Nat} {x : Str} {ps : List Str} {sp : Sp} {st : Stmt} {f : Addr} {fd : FuncData} (F : FnP K x st f fd) (m : mg x = some (.ref f)) (G : FnOk P w K mg base CX0 k f fd ps sp)
    (h : ∀ (kV doc pm : Value) (an : Option Addr) (cdv ct : Value) (us : List Value), us.length = ps.length → bindArgs (PySem.W.fnOf x x (defArgs st) (defBody st) (defScope st) .none kV doc pm an cdv ct) ⟨us, []⟩ = pure (ps.zip us)) : Own P w K mg base k x ps sp :=
  ⟨f, fd, G, m, F.kp, F.bindsN h⟩
theorem ev_ix {K : PySem.W.Frag} {σ : L2.St} {H : Hp} {b : Addr} {xs : List V} {i : Int} {v : V} {j : Nat} (hs : σ[j]? = some (some (.ref b))) (hb : H b = some (.lst xs)) (ha : atI xs i = some v) : Ev (tOp (rIxL K) (tVar j) (tC (.int i))) σ H v :=
  ev_op (ev_var hs) ev_c (rv_ixL (sq_of hb) ha)
theorem ev_ixt {K : PySem.W.Frag} {σ : L2.St} {H : Hp} {b : Addr} {xs : List V} {i : Int} {v : V} {j : Nat} (hs : σ[j]? = some (some (.ref b))) (hb : SqT K H b xs) (ha : atI xs i = some v) : Ev (tOp (rIxT K) (tVar j) (tC (.int i))) σ H v :=
  ev_op (ev_var hs) ev_c (rv_ixT hb ha)
theorem ite_T {c : Bool} {A B : Prop} (hc : c = true) (h : A) : if c = true then A else B := by
  rw [if_pos hc]
  exact h
theorem ite_F {c : Bool} {A B : Prop} (hc : c = false) (h : B) : if c = true then A else B := by
  rw [hc, if_neg Bool.false_ne_true]
  exact h
/-! ### the bag that draws -/
structure BagAt (H : Hp) (b l : Addr) (ns : List Int) (n : Nat) : Prop where
  ex : ∃ (i : Nat) (z s : Int) (c : Nat), H b = some (.lst [.ref l, .int i, .int z, .int s, .int c]) ∧ i ≤ ns.length ∧ 0 ≤ s ∧ s < 2147483647 ∧ c ≤ n
  ls : H l = some (.lst (ns.map V.int))
  ne : b ≠ l
/-- all but the object at b stays -/
def But (H H' : Hp) (b : Addr) : Prop := ∀ a o, H a = some o → a ≠ b → H' a = some o
theorem But.refl {H : Hp} {b : Addr} : But H H b := fun _ _ e _ => e
theorem But.trans {H H1 H2 : Hp} {b : Addr} (x : But H H1 b) (y : But H1 H2 b) : But H H2 b := fun a o e n => y a o (x a o e n) n
theorem But.ex {H H1 H2 : Hp} {b : Addr} (x : But H H1 b) (y : Ex H1 H2) : But H H2 b := fun a o e n => y a o (x a o e n)
theorem But.of {H H1 : Hp} {b : Addr} (y : Ex H H1) : But H H1 b := fun a o e _ => y a o e
theorem But.upd {H H1 : Hp} {b : Addr} {u : HO} (x : But H H1 b) : But H (upd H1 b u) b := fun a o e n => by
  rw [upd_ne n]
  exact x a o e n
theorem BagAt.ext {H H1 : Hp} {b l : Addr} {ns : List Int} {n m : Nat} (B : BagAt H b l ns n) (e : Ex H H1) (h : n ≤ m) : BagAt H1 b l ns m := by
  obtain ⟨⟨i, z, s, c, h1, h2, h3, h4, h5⟩, h6, h7⟩ := B
  exact ⟨⟨i, z, s, c, e _ _ h1, h2, h3, h4, Nat.le_trans h5 h⟩, e _ _ h6, h7⟩
def spPull : Sp := fun vs H Q _ => ∃ (b l : Addr) (ns : List Int) (n : Nat) (many : Int), vs = [.ref b, .int many] ∧ BagAt H b l ns n ∧ n < 1000000 ∧ 0 < many ∧ many < 2 ^ 200 ∧
  ∀ (v : Int) (H' : Hp), 0 ≤ v → v < many → BagAt H' b l ns (n + 1) → But H H' b → Q (.int v) H'
def spBag (K : PySem.W.Frag) : Sp := fun vs H Q _ => ∃ (a : Addr) (ns : List Int), vs = [.ref a] ∧ SqL K H a (ns.map V.int) ∧ ns.length ≤ 63 ∧
  ∀ (b l : Addr) (H' : Hp), H b = none → H l = none → BagAt H' b l ns 0 → Ex H H' → Q (.ref b) H'
end Hs
namespace Hs
open PySem
def top (i : Nat) : Stmt := PySem.Challenge.pw_hueshade_k07_fractions.main.body.getD i (.Pass ⟨0, 0, 0, 0⟩)
end Hs
namespace Hs
open PySem PySem.Spec PyProof.Rows L2 Evl
section
variable {P : Program} {w : World} {K : PySem.W.Frag} {mg : Str → Option Value} {base : Heap} {f : Addr} {fd : FuncData}
abbrev sPull : Stmt := top 21
theorem scPull : FnScope ["_law_bag_here", "_law_many", "_law_cell", "_law_got", "_law_wider"] ["_law_bag_here", "_law_many"] (defScope sPull) := ⟨rfl, rfl, rfl, by decide +kernel, rfl, by decide +kernel, by decide +kernel⟩
theorem ok_pull (F : FnP K "_law_pull" sPull f fd) (g_len : mg "len" = none) : FnOk P w K mg base CX0 1 f fd ["_law_bag_here", "_law_many"] spPull := by
  have nd := scPull.nd
  refine F.ok scPull (fun vs H Q E h => ?_) (fun cdv A outer s H vs Q E hr h => ⟨_, PSs.nox (Evl.pss_cut (ps_if (PW.pt (pw_and (pt_cmpR op_eq (pe_ix (r := rIxL K) ix_list (pv 0) pe_int (fun _ _ => rfl)) pe_int (nomark _)) (pw_and1 (pt_cmpR op_lt (pe_ix (r := rIxL K) ix_list (pv 0) pe_int (fun _ _ => rfl)) (pe_callB (r := Evl.rLenS K) call_len_seq (by rfl) g_len PySem.boot_len (pa_cons (pe_ix (r := rIxL K) ix_list (pv 0) pe_int (fun _ _ => rfl)) pa_nil)) (nomark _))))) (pss_cons (ps_set (i := 2) nd rfl (.inl rfl) (pe_ix (r := rIxL K) ix_list (pe_ix (r := rIxL K) ix_list (pv 0) pe_int (fun _ _ => rfl)) (pe_ix (r := rIxL K) ix_list (pv 0) pe_int (fun _ _ => rfl)) (fun _ _ => rfl)))
  (pss_cons (ps_asg (pe_op op_add (pe_ix (r := rIxL K) ix_list (pv 0) pe_int (fun _ _ => rfl)) pe_int) (pg_sub (pv 0) pe_int set_list))
  (pss_one (ps_if (pt_cmpR op_ge (pv 2) (pe_op op_pow pe_int pe_int) (nomark _)) (pss_one (ps_asg (pv 2) (pg_sub (pv 0) pe_int set_list))) (pss_one (ps_asg (pe_op op_modN (pe_op op_add (pe_op op_add (pe_op op_mulW (pe_ix (r := rIxL K) ix_list (pv 0) pe_int (fun _ _ => rfl)) pe_int) (pe_op op_modN (pv 2) pe_int)) pe_int) pe_int) (pg_sub (pv 0) pe_int set_list))))))) pss_nil)
  (pss_cons (ps_if (pt_cmpR op_gt (pe_ix (r := rIxL K) ix_list (pv 0) pe_int (fun _ _ => rfl)) pe_int (nomark _)) (pss_cons (ps_set (i := 3) nd rfl (.inl rfl) (pe_op op_modN (pe_ix (r := rIxL K) ix_list (pv 0) pe_int (fun _ _ => rfl)) (pv 1)))
  (pss_cons (ps_asg (pe_op Hs.op_fdivG (pe_ix (r := rIxL K) ix_list (pv 0) pe_int (fun _ _ => rfl)) (pv 1)) (pg_sub (pv 0) pe_int set_list))
  (pss_one (ps_ret (pv 3))))) pss_nil)
  (pss_cons (ps_asg (pe_op op_add (pe_ix (r := rIxL K) ix_list (pv 0) pe_int (fun _ _ => rfl)) pe_int) (pg_sub (pv 0) pe_int set_list))
  (pss_cons (ps_set (i := 4) nd rfl (.inl rfl) (pe_op op_add (pe_op op_mulW (pe_ix (r := rIxL K) ix_list (pv 0) pe_int (fun _ _ => rfl)) (pe_ix (r := rIxL K) ix_list (pv 0) pe_int (fun _ _ => rfl))) (pe_op op_mulW (pe_op op_mulW pe_int (pe_ix (r := rIxL K) ix_list (pv 0) pe_int (fun _ _ => rfl))) (pe_op op_add (pe_op op_modN (pe_ix (r := rIxL K) ix_list (pv 0) pe_int (fun _ _ => rfl)) pe_int) pe_int))))
  (pss_cons (ps_asg (pe_op op_modN (pe_op op_add (pe_op op_add (pv 4) (pe_op op_mulW (pe_op op_mulW (pe_ix (r := rIxL K) ix_list (pv 0) pe_int (fun _ _ => rfl)) (pe_ix (r := rIxL K) ix_list (pv 0) pe_int (fun _ _ => rfl))) (pe_ix (r := rIxL K) ix_list (pv 0) pe_int (fun _ _ => rfl)))) pe_int) pe_int) (pg_sub (pv 0) pe_int set_list))
  (pss_one (ps_ret (pe_op op_modN (pe_op op_add (pe_op Hs.op_fdivG (pe_ix (r := rIxL K) ix_list (pv 0) pe_int (fun _ _ => rfl)) pe_int) (pe_op op_mulW (pe_op op_modN (pe_ix (r := rIxL K) ix_list (pv 0) pe_int (fun _ _ => rfl)) pe_int) pe_int)) (pv 1))))))))), ?_⟩)
  · obtain ⟨b, l, ns, n, many, rfl, _⟩ := h
    rfl
  · obtain ⟨b, l, ns, n, many, rfl, B, hn, hm, hm2, k⟩ := h
    obtain ⟨⟨i, z, s0, c, hb, hi, h0, h1, hc⟩, hl, ne⟩ := B
    refine q_cut (M := fun σ' H' => ∃ v2, σ' = [some (.ref b), some (.int many), v2, none, none] ∧ H' l = some (.lst (ns.map V.int)) ∧ But H H' b ∧ ∃ (i : Nat) (z s : Int), H' b = some (.lst [.ref l, .int i, .int z, .int s, .int c]) ∧ i ≤ ns.length ∧ 0 ≤ s ∧ s < 2147483647) ?_ ?_
    · refine s_when (et_and (et_test (ev_op (ev_ix rfl hb rfl) ev_c (rv_eq rfl))) fun _ => et_test (ev_op (ev_ix rfl hb rfl) (ev_len (ev_ix rfl hb rfl) (sq_of hl)) rv_I0)) (fun ht H1 e1 => ?_) (fun ht H1 e1 => ?_)
      · have hlt : (i : Int) < ((ns.map V.int).length : Int) := by
          rw [Bool.and_eq_true] at ht
          exact of_decide_eq_true ht.2
        rw [List.length_map] at hlt
        have hit : i < ns.length := by omega
        have hg : (ns.map V.int)[i]? = some (V.int ns[i]) := by
          rw [List.getElem?_map, List.getElem?_eq_getElem hit] <;> rfl
        refine q_asg (ev_op (ev_ix rfl (e1 _ _ hb) rfl) (ev_ix rfl (e1 _ _ hb) rfl) (rv_ixL (sq_of (e1 _ _ hl)) (atI_nat hg))) fun H2 e2 => ?_
        have e12 := e1.trans e2
        refine q_setL (j := 1) (e12 _ _ hb) (ev_op (ev_ix rfl (e12 _ _ hb) rfl) ev_c rv_I0) (ev_var rfl) ev_c (by simp) fun H3 e3 => ?_
        have hb3 : (upd H3 b (.lst [.ref l, .int ((i : Int) + 1), .int z, .int s0, .int c])) b = some (.lst [.ref l, .int ((i + 1 : Nat) : Int), .int z, .int s0, .int c]) := upd_same
        have hl3 : (upd H3 b (.lst [.ref l, .int ((i : Int) + 1), .int z, .int s0, .int c])) l = some (.lst (ns.map V.int)) := by
          rw [upd_ne (Ne.symm ne)]
          exact (e12.trans e3) _ _ hl
        have bt3 : But H (upd H3 b (.lst [.ref l, .int ((i : Int) + 1), .int z, .int s0, .int c])) b := But.upd (.of (e12.trans e3))
        refine s_if (et_test (ev_op (ev_var rfl) (ev_op ev_c ev_c (rv_I ⟨by decide, by decide, by decide⟩)) rv_I0)) (fun ht2 H4 e4 => ?_) (fun ht2 H4 e4 => ?_)
        · refine s_setL (j := 2) (e4 _ _ hb3) (ev_var rfl) (ev_var rfl) ev_c (by simp) fun H5 e5 => ?_
          refine ⟨_, rfl, ?_, But.upd ((bt3.ex e4).ex e5), i + 1, ns[i], s0, upd_same, hit, h0, h1⟩
          rw [upd_ne (Ne.symm ne)]
          exact (e4.trans e5) _ _ hl3
        · refine s_setL (j := 3) (e4 _ _ hb3) (ev_op (ev_op (ev_op (ev_op (ev_ix rfl (e4 _ _ hb3) rfl) ev_c (rv_I (mul64 (by omega) (by decide)))) (ev_op (ev_var rfl) ev_c (rv_I (show (2147483563 : Int) ≠ 0 by decide))) rv_I0) ev_c rv_I0) ev_c (rv_I (show (2147483629 : Int) ≠ 0 by decide))) (ev_var rfl) ev_c (by simp) fun H5 e5 => ?_
          have hp := modP (i := s0 * 40503 + (ns[i]).fmod 2147483563 + 1) (j := 2147483629) (by decide)
          refine ⟨_, rfl, ?_, But.upd ((bt3.ex e4).ex e5), i + 1, z, _, upd_same, hit, hp.1, by omega⟩
          rw [upd_ne (Ne.symm ne)]
          exact (e4.trans e5) _ _ hl3
      · exact ⟨none, rfl, e1 _ _ hl, .of e1, i, z, s0, e1 _ _ hb, hi, h0, h1⟩
    · rintro σ' H1 ⟨v2, rfl, hl1, bt1, i, z, s0, hb1, hi, h0, h1⟩
      refine q_when (et_test (ev_op (ev_ix rfl hb1 rfl) ev_c rv_I0)) (fun ht H2 e2 => ?_) (fun ht H2 e2 => ?_)
      · refine q_asg (ev_op (ev_ix rfl (e2 _ _ hb1) rfl) (ev_var rfl) (rv_I (show many ≠ 0 by omega))) fun H3 e3 => ?_
        have e23 := e2.trans e3
        refine q_setL (j := 2) (e23 _ _ hb1) (ev_op (ev_ix rfl (e23 _ _ hb1) rfl) (ev_var rfl) (rv_I (divG (b := 200) (by omega) (by omega) (by decide) (by decide)))) (ev_var rfl) ev_c (by simp) fun H4 e4 => ?_
        have hp := modP (i := z) (j := many) hm
        refine s_ret (ev_var rfl) fun H5 e5 => k _ _ hp.1 hp.2 ?_ ((But.upd (bt1.ex (e23.trans e4))).ex e5)
        refine BagAt.ext (n := n + 1) ⟨⟨i, _, s0, c, upd_same, hi, h0, h1, by omega⟩, ?_, ne⟩ e5 (Nat.le_refl _)
        rw [upd_ne (Ne.symm ne)]
        exact (e23.trans e4) _ _ hl1
      · refine q_setL (j := 4) (e2 _ _ hb1) (ev_op (ev_ix rfl (e2 _ _ hb1) rfl) ev_c rv_I0) (ev_var rfl) ev_c (by simp) fun H3 e3 => ?_
        have hb3 : (upd H3 b (.lst [.ref l, .int i, .int z, .int s0, .int ((c : Int) + 1)])) b = some (.lst [.ref l, .int i, .int z, .int s0, .int ((c : Int) + 1)]) := upd_same
        have hl3 : (upd H3 b (.lst [.ref l, .int i, .int z, .int s0, .int ((c : Int) + 1)])) l = some (.lst (ns.map V.int)) := by
          rw [upd_ne (Ne.symm ne)]
          exact (e2.trans e3) _ _ hl1
        have bt3 : But H (upd H3 b (.lst [.ref l, .int i, .int z, .int s0, .int ((c : Int) + 1)])) b := But.upd (bt1.ex (e2.trans e3))
        have hp1 := modP (i := s0) (j := 8191) (by decide)
        refine q_asg (ev_op (ev_op (ev_ix rfl hb3 rfl) (ev_ix rfl hb3 rfl) (rv_I (mul64 (by omega) (by omega)))) (ev_op (ev_op ev_c (ev_ix rfl hb3 rfl) (rv_I (mul64 (by decide) (by omega)))) (ev_op (ev_op (ev_ix rfl hb3 rfl) ev_c (rv_I (show (8191 : Int) ≠ 0 by decide))) ev_c rv_I0) (rv_I (mul64 (by omega) (by omega)))) rv_I0) fun H4 e4 => ?_
        have hcc : ((c : Int) + 1) * ((c : Int) + 1) ≤ 1000000 * 1000000 := Int.mul_le_mul (by omega) (by omega) (by omega) (by decide)
        have hcd : 0 ≤ ((c : Int) + 1) * ((c : Int) + 1) := Int.mul_nonneg (by omega) (by omega)
        refine q_setL (j := 3) (e4 _ _ hb3) (ev_op (ev_op (ev_op (ev_var rfl) (ev_op (ev_op (ev_ix rfl (e4 _ _ hb3) rfl) (ev_ix rfl (e4 _ _ hb3) rfl) (rv_I (mul64 (by omega) (by omega)))) (ev_ix rfl (e4 _ _ hb3) rfl) (rv_I (mul64 (by omega) (by omega)))) rv_I0) ev_c rv_I0) ev_c (rv_I (show (2147483629 : Int) ≠ 0 by decide))) (ev_var rfl) ev_c (by simp) fun H5 e5 => ?_
        generalize hs' : Int.fmod _ 2147483629 = s1
        have hs1 : 0 ≤ s1 ∧ s1 < 2147483629 := by
          rw [← hs']
          exact modP (by decide)
        have hp2 := modP (i := s1) (j := 7919) (by decide)
        refine s_ret (ev_op (ev_op (ev_op (ev_ix rfl upd_same rfl) ev_c (rv_I (divG (b := 64) (by decide) (by decide) (by decide) (by decide)))) (ev_op (ev_op (ev_ix rfl upd_same rfl) ev_c (rv_I (show (7919 : Int) ≠ 0 by decide))) ev_c (rv_I (mul64 (by omega) (by decide)))) rv_I0) (ev_var rfl) (rv_I (show many ≠ 0 by omega))) fun H6 e6 => ?_
        have hp := modP (i := s1.fdiv 71 + s1.fmod 7919 * 37) (j := many) hm
        refine k _ _ hp.1 hp.2 ?_ ((But.upd (bt3.ex (e4.trans e5))).ex e6)
        refine BagAt.ext (n := n + 1) ⟨⟨i, z, s1, c + 1, upd_same, hi, hs1.1, by omega, by omega⟩, ?_, ne⟩ e6 (Nat.le_refl _)
        rw [upd_ne (Ne.symm ne)]
        exact (e4.trans e5) _ _ hl3
end
end Hs
namespace Hs
open PySem PySem.Spec PyProof.Rows L2 Evl
theorem rc_abs {H : Hp} {i : Int} : RC (fun xs H Q => ∃ i : Int, xs = [.int i] ∧ Q (.int (if i < 0 then -i else i)) H) [.int i] H (.int (i.natAbs : Int)) := fun H1 _ Q q => ⟨i, rfl, by
  have e : (if i < 0 then -i else i) = (i.natAbs : Int) := by split <;> omega
  rw [e]
  exact q H1 (Ex.refl H1)⟩
theorem s_par {σ : L2.St} {H : Hp} {D : Ends} {i j : Nat} {ta : TA} {v u : V} (h : EvA ta σ H [v, u]) (k : ∀ H1, Ex H H1 → D.nx ((σ.set i (some v)).set j (some u)) H1) : tPar i j ta D σ H := h H (Ex.refl H) _ fun H1 e => ⟨v, u, rfl, k H1 e⟩
theorem q_par {σ : L2.St} {H : Hp} {D : Ends} {i j : Nat} {ta : TA} {v u : V} {tz : TS} (h : EvA ta σ H [v, u]) (k : ∀ H1, Ex H H1 → tz D ((σ.set i (some v)).set j (some u)) H1) : tSeq (tPar i j ta) tz D σ H := s_par (D := { D with nx := tz D }) h k
theorem nat_mod {p q : Nat} : (p : Int).fmod (q : Int) = ((p % q : Nat) : Int) := by
  rw [Int.fmod_eq_emod_of_nonneg _ (by omega)]
  exact (Int.natCast_emod p q).symm
def spGcd : Sp := fun vs H Q _ => ∃ a b : Int, vs = [.int a, .int b] ∧ ∀ H', Ex H H' → Q (.int (Int.gcd a b : Int)) H'
section
variable {P : Program} {w : World} {K : PySem.W.Frag} {mg : Str → Option Value} {base : Heap} {f : Addr} {fd : FuncData}
abbrev sCommon : Stmt := top 11
theorem scCommon : FnScope ["one", "other"] ["one", "other"] (defScope sCommon) := ⟨rfl, rfl, rfl, by decide +kernel, rfl, by decide +kernel, by decide +kernel⟩
theorem ok_common (F : FnP K "common_part" sCommon f fd) (g_abs : mg "abs" = none) : FnOk P w K mg base CX0 1 f fd ["one", "other"] spGcd := by
  have nd := scCommon.nd
  refine F.ok scCommon (fun vs H Q E h => ?_) (fun cdv A outer s H vs Q E hr h => ⟨_, PSs.nox (pss_cons (ps_set (i := 0) nd rfl (.inl rfl) (pe_callB call_abs (by rfl) g_abs (by decide +kernel) (pa_cons (pv 0) pa_nil)))
  (pss_cons (ps_set (i := 1) nd rfl (.inl rfl) (pe_callB call_abs (by rfl) g_abs (by decide +kernel) (pa_cons (pv 1) pa_nil)))
  (pss_cons (ps_while PassesOwn.never (pt_cmpR op_ne (pv 1) pe_int (nomark _)) (pss_one (ps_par (i := 0) (j := 1) (by rfl) nd rfl rfl (by decide) rfl rfl (pa_cons (pv 1) (pa_cons (pe_op op_modN (pv 0) (pv 1)) pa_nil)) (by rfl))))
  (pss_one (ps_ret (pv 0)))))), ?_⟩)
  · obtain ⟨a, b, rfl, _⟩ := h
    rfl
  · obtain ⟨a, b, rfl, k⟩ := h
    refine q_asg (ev_cb (ea_cons (ev_var rfl) ea_nil) rc_abs) fun H1 e1 => ?_
    refine q_asg (ev_cb (ea_cons (ev_var rfl) ea_nil) rc_abs) fun H2 e2 => ?_
    refine q_while (fun m σ' H' => Ex H H' ∧ ∃ p : Nat, σ' = [some (.int (p : Int)), some (.int (m : Int))] ∧ Nat.gcd p m = Int.gcd a b) b.natAbs ⟨e1.trans e2, a.natAbs, rfl, rfl⟩ ?_
    rintro m σ' H' ⟨e, p, rfl, hg⟩
    refine ⟨_, et_test (ev_op (ev_var rfl) ev_c (rv_ne rfl)), fun ht H3 e3 => ?_, fun ht H3 e3 => ?_⟩
    · have hm : m ≠ 0 := fun z => by
        subst z
        simp at ht
      refine ⟨fun σ2 H2 => ∃ m', m' < m ∧ Ex H H2 ∧ ∃ p : Nat, σ2 = [some (.int (p : Int)), some (.int (m' : Int))] ∧ Nat.gcd p m' = Int.gcd a b, fun σ2 H2 h => h, ?_⟩
      refine s_par (ea_cons (ev_var rfl) (ea_cons (ev_op (ev_var rfl) (ev_var rfl) (rv_I (show (m : Int) ≠ 0 by omega))) ea_nil)) fun H4 e4 => ?_
      refine ⟨p % m, Nat.mod_lt _ (by omega), (e.trans e3).trans e4, m, ?_, ?_⟩
      · rw [nat_mod]
        rfl
      · rw [← hg, Nat.gcd_comm m, ← Nat.gcd_rec, Nat.gcd_comm]
    · have hm : m = 0 := Decidable.byContradiction fun hm => by
        have : (!decide (V.int (m : Int) = V.int 0)) = true := by
          rw [decide_eq_false (fun z => by injection z with z; omega)] <;> rfl
        rw [this] at ht
        exact Bool.noConfusion ht
      subst hm
      rw [Nat.gcd_zero_right] at hg
      refine s_ret (ev_var rfl) fun H4 e4 => ?_
      rw [hg]
      exact k H4 ((e.trans e3).trans e4)
abbrev sGcd : Stmt := top 24
theorem scGcd : FnScope ["_law_one", "_law_other"] ["_law_one", "_law_other"] (defScope sGcd) := ⟨rfl, rfl, rfl, by decide +kernel, rfl, by decide +kernel, by decide +kernel⟩
theorem ok_gcd (F : FnP K "_law_gcd" sGcd f fd) (g_abs : mg "abs" = none) : FnOk P w K mg base CX0 1 f fd ["_law_one", "_law_other"] spGcd := by
  have nd := scGcd.nd
  refine F.ok scGcd (fun vs H Q E h => ?_) (fun cdv A outer s H vs Q E hr h => ⟨_, PSs.nox (pss_cons (ps_par (i := 0) (j := 1) (by rfl) nd rfl rfl (by decide) rfl rfl (pa_cons (pe_callB call_abs (by rfl) g_abs (by decide +kernel) (pa_cons (pv 0) pa_nil)) (pa_cons (pe_callB call_abs (by rfl) g_abs (by decide +kernel) (pa_cons (pv 1) pa_nil)) pa_nil)) (by rfl))
  (pss_cons (ps_while PassesOwn.never (pt_cmpR op_gt (pv 1) pe_int (nomark _)) (pss_one (ps_par (i := 0) (j := 1) (by rfl) nd rfl rfl (by decide) rfl rfl (pa_cons (pv 1) (pa_cons (pe_op op_modN (pv 0) (pv 1)) pa_nil)) (by rfl))))
  (pss_one (ps_ret (pv 0))))), ?_⟩)
  · obtain ⟨a, b, rfl, _⟩ := h
    rfl
  · obtain ⟨a, b, rfl, k⟩ := h
    refine q_par (ea_cons (ev_cb (ea_cons (ev_var rfl) ea_nil) rc_abs) (ea_cons (ev_cb (ea_cons (ev_var rfl) ea_nil) rc_abs) ea_nil)) fun H2 e2 => ?_
    refine q_while (fun m σ' H' => Ex H H' ∧ ∃ p : Nat, σ' = [some (.int (p : Int)), some (.int (m : Int))] ∧ Nat.gcd p m = Int.gcd a b) b.natAbs ⟨e2, a.natAbs, rfl, rfl⟩ ?_
    rintro m σ' H' ⟨e, p, rfl, hg⟩
    refine ⟨_, et_test (ev_op (ev_var rfl) ev_c rv_I0), fun ht H3 e3 => ?_, fun ht H3 e3 => ?_⟩
    · have hm : (0 : Int) < m := of_decide_eq_true ht
      refine ⟨fun σ2 H2 => ∃ m', m' < m ∧ Ex H H2 ∧ ∃ p : Nat, σ2 = [some (.int (p : Int)), some (.int (m' : Int))] ∧ Nat.gcd p m' = Int.gcd a b, fun σ2 H2 h => h, ?_⟩
      refine s_par (ea_cons (ev_var rfl) (ea_cons (ev_op (ev_var rfl) (ev_var rfl) (rv_I (show (m : Int) ≠ 0 by omega))) ea_nil)) fun H4 e4 => ?_
      refine ⟨p % m, Nat.mod_lt _ (by omega), (e.trans e3).trans e4, m, ?_, ?_⟩
      · rw [nat_mod]
        rfl
      · rw [← hg, Nat.gcd_comm m, ← Nat.gcd_rec, Nat.gcd_comm]
    · have hm' : ¬ (0 : Int) < m := of_decide_eq_false ht
      have hm : m = 0 := by omega
      subst hm
      rw [Nat.gcd_zero_right] at hg
      refine s_ret (ev_var rfl) fun H4 e4 => ?_
      rw [hg]
      exact k H4 ((e.trans e3).trans e4)
/-- a pair is made -/
def RetU (xs : List V) (H : Hp) (Q : VK) : Prop := ∀ p H2, H p = none → Ex H H2 → H2 p = some (.tup xs) → Q (.ref p) H2
def prV (x : Int × Int) : List V := [.int x.1, .int x.2]
def spLow : Sp := fun vs H Q _ => ∃ a b : Int, vs = [.int a, .int b] ∧ b ≠ 0 ∧ a.natAbs < 2 ^ 900 ∧ b.natAbs < 2 ^ 900 ∧ RetU (prV (low a b)) H Q
abbrev sLow : Stmt := top 25
theorem scLow : FnScope ["_law_top", "_law_bottom", "_law_upto"] ["_law_top", "_law_bottom"] (defScope sLow) := ⟨rfl, rfl, rfl, by decide +kernel, rfl, by decide +kernel, by decide +kernel⟩
theorem sg_lt {a b : Int} (h : b ≠ 0) {n : Nat} (hb : b.natAbs < 2 ^ n) : (sg a b).natAbs < 2 ^ n := by
  rw [sg_abs]
  exact Nat.lt_of_le_of_lt (Nat.le_of_dvd (by omega) (Int.natCast_dvd_natCast.mp (by rw [Int.dvd_natAbs]; exact Int.gcd_dvd_right ..))) hb
theorem ok_low (F : FnP K "_law_low" sLow f fd) (O__law_gcd : Own P w K mg base 1 "_law_gcd" ["_law_one", "_law_other"] spGcd) : FnOk P w K mg base CX0 2 f fd ["_law_top", "_law_bottom"] spLow := by
  have nd := scLow.nd
  refine F.ok scLow (fun vs H Q E h => ?_) (fun cdv A outer s H vs Q E hr h => ⟨_, PSs.nox (pss_cons (ps_set (i := 2) nd rfl (.inl rfl) (Hs.pe_own O__law_gcd hr (by first | decide | omega) (by rfl) (pa_cons (pv 0) (pa_cons (pv 1) pa_nil))))
  (Evl.pss_cut (ps_if (pt_cmpR op_lt (pv 1) pe_int (nomark _)) (pss_one (ps_set (i := 2) nd rfl (.inl rfl) (pe_op op_sub pe_int (pv 2)))) pss_nil)
  (pss_one (ps_ret (pe_tup (pa_cons (pe_op Hs.op_fdivG (pv 0) (pv 2)) (pa_cons (pe_op Hs.op_fdivG (pv 1) (pv 2)) pa_nil))))))), ?_⟩)
  · obtain ⟨a, b, rfl, _⟩ := h
    rfl
  · obtain ⟨a, b, rfl, hb, ha9, hb9, k⟩ := h
    refine q_asg (ev_call (ea_cons (ev_var rfl) (ea_cons (ev_var rfl) ea_nil)) fun H1 e1 Q' q E' => ⟨a, b, rfl, q⟩) fun H1 e1 => ?_
    refine q_cut (M := fun σ' H' => Ex H H' ∧ σ' = [some (.int a), some (.int b), some (.int (sg a b))]) ?_ ?_
    · refine s_when (et_test (ev_op (ev_var rfl) ev_c rv_I0)) (fun ht H2 e2 => ?_) (fun ht H2 e2 => ?_)
      · refine s_asg (ev_op ev_c (ev_var rfl) rv_I0) fun H3 e3 => ⟨(e1.trans e2).trans e3, ?_⟩
        have e : (0 : Int) - (Int.gcd a b : Int) = sg a b := by
          unfold sg
          rw [if_pos (of_decide_eq_true ht)]
          omega
        rw [← e]
        rfl
      · refine ⟨e1.trans e2, ?_⟩
        have e : (Int.gcd a b : Int) = sg a b := (if_neg (of_decide_eq_false ht)).symm
        rw [← e]
        rfl
    · rintro σ' H2 ⟨e2, rfl⟩
      have hs := sg_ne (a := a) hb
      have hl := sg_lt (a := a) hb hb9
      exact s_retU (eu_tup (ea_cons (ev_op (ev_var rfl) (ev_var rfl) (rv_I (divG hs hl (by decide) (by decide)))) (ea_cons (ev_op (ev_var rfl) (ev_var rfl) (rv_I (divG hs hl (by decide) (by decide)))) ea_nil)) (by simp)) fun p H3 hp e3 h3 => k p H3 (fresh_back e2 hp) (e2.trans e3) h3
end
end Hs
namespace Hs
open PySem PySem.Spec PyProof.Rows L2 Evl
/-- a fraction handed in: the pair x at p -/
def Fr2 (K : PySem.W.Frag) (H : Hp) (p : Addr) (x : Int × Int) (n : Nat) : Prop := SqT K H p (prV x) ∧ 0 < x.2 ∧ x.1.natAbs < 2 ^ n ∧ x.2.natAbs < 2 ^ n
theorem Fr2.ext {K : PySem.W.Frag} {H H' : Hp} {p : Addr} {x : Int × Int} {n : Nat} (h : Fr2 K H p x n) (e : Ex H H') : Fr2 K H' p x n := ⟨ex_t e h.1, h.2⟩
theorem ev_f1 {K : PySem.W.Frag} {σ : L2.St} {H : Hp} {p : Addr} {x : Int × Int} {n j : Nat} (hs : σ[j]? = some (some (.ref p))) (h : Fr2 K H p x n) : Ev (tOp (rIxT K) (tVar j) (tC (.int 0))) σ H (.int x.1) := ev_ixt hs h.1 rfl
theorem ev_f2 {K : PySem.W.Frag} {σ : L2.St} {H : Hp} {p : Addr} {x : Int × Int} {n j : Nat} (hs : σ[j]? = some (some (.ref p))) (h : Fr2 K H p x n) : Ev (tOp (rIxT K) (tVar j) (tC (.int 1))) σ H (.int x.2) := ev_ixt hs h.1 rfl
/-- how two numbers stand -/
def cmp3 (a b : Int) : Int := if a < b then -1 else if b < a then 1 else 0
def spOrd (K : PySem.W.Frag) : Sp := fun vs H Q _ => ∃ (p q : Addr) (x y : Int × Int), vs = [.ref p, .ref q] ∧ Fr2 K H p x 300 ∧ Fr2 K H q y 300 ∧ RetV (.int (cmp3 (x.1 * y.2) (y.1 * x.2))) H Q
theorem mul300 {i j : Int} (ha : i.natAbs < 2 ^ 300) (hb : j.natAbs < 2 ^ 300) : CMulW i j := wide_mul ha hb (by decide) (by decide) (by decide)
section
variable {P : Program} {w : World} {K : PySem.W.Frag} {mg : Str → Option Value} {base : Heap} {f : Addr} {fd : FuncData}
abbrev sOrder : Stmt := top 17
theorem scOrder : FnScope ["one", "other", "left", "right"] ["one", "other"] (defScope sOrder) := ⟨rfl, rfl, rfl, by decide +kernel, rfl, by decide +kernel, by decide +kernel⟩
theorem ok_order (F : FnP K "order" sOrder f fd) : FnOk P w K mg base CX0 1 f fd ["one", "other"] (spOrd K) := by
  have nd := scOrder.nd
  refine F.ok scOrder (fun vs H Q E h => ?_) (fun cdv A outer s H vs Q E hr h => ⟨_, PSs.nox (pss_cons (ps_set (i := 2) nd rfl (.inl rfl) (pe_op op_mulW (pe_ix (r := rIxT K) ix_tup (pv 0) pe_int (fun _ _ => rfl)) (pe_ix (r := rIxT K) ix_tup (pv 1) pe_int (fun _ _ => rfl))))
  (pss_cons (ps_set (i := 3) nd rfl (.inl rfl) (pe_op op_mulW (pe_ix (r := rIxT K) ix_tup (pv 1) pe_int (fun _ _ => rfl)) (pe_ix (r := rIxT K) ix_tup (pv 0) pe_int (fun _ _ => rfl))))
  (pss_cons (ps_if (pt_cmpR op_lt (pv 2) (pv 3) (nomark _)) (pss_one (ps_ret (pe_un un_neg pe_int))) pss_nil)
  (pss_cons (ps_if (pt_cmpR op_gt (pv 2) (pv 3) (nomark _)) (pss_one (ps_ret pe_int)) pss_nil)
  (pss_one (ps_ret pe_int)))))), ?_⟩)
  · obtain ⟨p, q, x, y, rfl, _⟩ := h
    rfl
  · obtain ⟨p, q, x, y, rfl, hx, hy, k⟩ := h
    refine q_asg (ev_op (ev_f1 rfl hx) (ev_f2 rfl hy) (rv_I (mul300 hx.2.2.1 hy.2.2.2))) fun H1 e1 => ?_
    refine q_asg (ev_op (ev_f1 rfl (hy.ext e1)) (ev_f2 rfl (hx.ext e1)) (rv_I (mul300 hy.2.2.1 hx.2.2.2))) fun H2 e2 => ?_
    refine q_when (et_test (ev_op (ev_var rfl) (ev_var rfl) rv_I0)) (fun ht H3 e3 => ?_) (fun ht H3 e3 => ?_)
    · refine s_ret (ev_un ev_c ru_neg) fun H4 e4 => ?_
      have e : cmp3 (x.1 * y.2) (y.1 * x.2) = -1 := if_pos (of_decide_eq_true ht)
      rw [e] at k
      exact k _ (((e1.trans e2).trans e3).trans e4)
    · have h1 : ¬ x.1 * y.2 < y.1 * x.2 := of_decide_eq_false ht
      refine q_when (et_test (ev_op (ev_var rfl) (ev_var rfl) rv_I0)) (fun ht H4 e4 => ?_) (fun ht H4 e4 => ?_)
      · refine s_ret ev_c fun H5 e5 => ?_
        have e : cmp3 (x.1 * y.2) (y.1 * x.2) = 1 := (if_neg h1).trans (if_pos (of_decide_eq_true ht))
        rw [e] at k
        exact k _ ((((e1.trans e2).trans e3).trans e4).trans e5)
      · refine s_ret ev_c fun H5 e5 => ?_
        have e : cmp3 (x.1 * y.2) (y.1 * x.2) = 0 := (if_neg h1).trans (if_neg (of_decide_eq_false ht))
        rw [e] at k
        exact k _ ((((e1.trans e2).trans e3).trans e4).trans e5)
abbrev sBefore : Stmt := top 26
theorem scBefore : FnScope ["_law_one", "_law_other", "_law_gap"] ["_law_one", "_law_other"] (defScope sBefore) := ⟨rfl, rfl, rfl, by decide +kernel, rfl, by decide +kernel, by decide +kernel⟩
theorem rc_intB {H : Hp} {b : Bool} : RC (fun xs H Q => (∃ i : Int, xs = [.int i] ∧ Q (.int i) H) ∨ ∃ k, xs = [.bl k] ∧ Q (.int (if k then 1 else 0)) H) [.bl b] H (.int (if b then 1 else 0)) := fun H1 _ Q q => .inr ⟨b, rfl, q H1 (Ex.refl H1)⟩
theorem ok_before (F : FnP K "_law_before" sBefore f fd) (g_int : mg "int" = none) : FnOk P w K mg base CX0 1 f fd ["_law_one", "_law_other"] (spOrd K) := by
  have nd := scBefore.nd
  refine F.ok scBefore (fun vs H Q E h => ?_) (fun cdv A outer s H vs Q E hr h => ⟨_, PSs.nox (pss_cons (ps_set (i := 2) nd rfl (.inl rfl) (pe_op op_sub (pe_op op_mulW (pe_ix (r := rIxT K) ix_tup (pv 0) pe_int (fun _ _ => rfl)) (pe_ix (r := rIxT K) ix_tup (pv 1) pe_int (fun _ _ => rfl))) (pe_op op_mulW (pe_ix (r := rIxT K) ix_tup (pv 1) pe_int (fun _ _ => rfl)) (pe_ix (r := rIxT K) ix_tup (pv 0) pe_int (fun _ _ => rfl)))))
  (pss_one (ps_ret (pe_ifExp (pt_cmpR op_lt (pv 2) pe_int (nomark _)) (pe_un un_neg pe_int) (pe_callTy call_int1 (by rfl) g_int (by decide +kernel) (pa_cons (pe_cmpR op_gt (pv 2) pe_int (nomark _)) pa_nil)))))), ?_⟩)
  · obtain ⟨p, q, x, y, rfl, _⟩ := h
    rfl
  · obtain ⟨p, q, x, y, rfl, hx, hy, k⟩ := h
    refine q_asg (ev_op (ev_op (ev_f1 rfl hx) (ev_f2 rfl hy) (rv_I (mul300 hx.2.2.1 hy.2.2.2))) (ev_op (ev_f1 rfl hy) (ev_f2 rfl hx) (rv_I (mul300 hy.2.2.1 hx.2.2.2))) rv_I0) fun H1 e1 => ?_
    refine s_ret (v := .int (cmp3 (x.1 * y.2) (y.1 * x.2))) (ev_if (et_test (ev_op (ev_var rfl) ev_c rv_I0)) (fun ht => ?_) (fun ht => ?_)) fun H2 e2 => k _ (e1.trans e2)
    · have h0 : x.1 * y.2 - y.1 * x.2 < 0 := of_decide_eq_true ht
      have e : cmp3 (x.1 * y.2) (y.1 * x.2) = -1 := if_pos (by omega)
      rw [e]
      exact ev_un ev_c ru_neg
    · have h0 : ¬ x.1 * y.2 - y.1 * x.2 < 0 := of_decide_eq_false ht
      refine ev_is (ev_cb (ea_cons (ev_op (ev_var rfl) ev_c rv_I0) ea_nil) rc_intB) ?_
      by_cases h1 : y.1 * x.2 < x.1 * y.2
      · have e : cmp3 (x.1 * y.2) (y.1 * x.2) = 1 := (if_neg (by omega)).trans (if_pos h1)
        rw [e, decide_eq_true (by omega)] <;> rfl
      · have e : cmp3 (x.1 * y.2) (y.1 * x.2) = 0 := (if_neg (by omega)).trans (if_neg h1)
        rw [e, decide_eq_false (by omega)] <;> rfl
/-- a number that is drawn: within 10 ^ 29 -/
def spAny : Sp := fun vs H Q _ => ∃ (b l : Addr) (ns : List Int) (n : Nat), vs = [.ref b] ∧ BagAt H b l ns n ∧ n < 900000 ∧
  ∀ (v : Int) (H' : Hp), v.natAbs < 2 ^ 97 → BagAt H' b l ns (n + 2) → But H H' b → Q (.int v) H'
abbrev sAny : Stmt := top 27
theorem scAny : FnScope ["_law_bag_here", "_law_way", "_law_wide"] ["_law_bag_here"] (defScope sAny) := ⟨rfl, rfl, rfl, by decide +kernel, rfl, by decide +kernel, by decide +kernel⟩
theorem ok_any (F : FnP K "_law_any" sAny f fd) (O__law_pull : Own P w K mg base 1 "_law_pull" ["_law_bag_here", "_law_many"] spPull) : FnOk P w K mg base CX0 2 f fd ["_law_bag_here"] spAny := by
  have nd := scAny.nd
  refine F.ok scAny (fun vs H Q E h => ?_) (fun cdv A outer s H vs Q E hr h => ⟨_, PSs.nox (pss_cons (ps_set (i := 1) nd rfl (.inl rfl) (Hs.pe_own O__law_pull hr (by first | decide | omega) (by rfl) (pa_cons (pv 0) (pa_cons pe_int pa_nil))))
  (pss_cons (ps_if (pt_cmpR op_eq (pv 1) pe_int (nomark _)) (pss_one (ps_ret pe_int)) pss_nil)
  (pss_cons (ps_set (i := 2) nd rfl (.inl rfl) (pe_ix (r := rIxL K) ix_list (pe_lst (pa_cons pe_int (pa_cons pe_int (pa_cons (pe_op op_pow pe_int pe_int) (pa_cons (pe_op op_pow pe_int pe_int) pa_nil))))) (pe_op op_sub (pv 1) pe_int) (fun _ _ => rfl)))
  (pss_one (ps_ret (pe_op op_sub (Hs.pe_own O__law_pull hr (by first | decide | omega) (by rfl) (pa_cons (pv 0) (pa_cons (pe_op op_add (pe_op op_mulW pe_int (pv 2)) pe_int) pa_nil))) (pv 2))))))), ?_⟩)
  · obtain ⟨b, l, ns, n, rfl, _⟩ := h
    rfl
  · obtain ⟨b, l, ns, n, rfl, B, hn, k⟩ := h
    refine ⟨_, rfl, b, l, ns, n, 5, rfl, B, by omega, by decide, by decide, fun v H1 v0 v1 B1 b1 => ?_⟩
    refine q_when (et_test (ev_op (ev_var rfl) ev_c (rv_eq rfl))) (fun ht H2 e2 => ?_) (fun ht H2 e2 => ?_)
    · exact s_ret ev_c fun H3 e3 => k 0 H3 (by decide) (B1.ext (e2.trans e3) (by omega)) (b1.ex (e2.trans e3))
    · have hv : v ≠ 0 := fun z => by
        subst z
        simp at ht
      have tw : ∃ wd : Int, atI [V.int 9, V.int 60, V.int (10 ^ 9), V.int (10 ^ 29)] (v - 1) = some (.int wd) ∧ 0 < wd ∧ wd ≤ 10 ^ 29 := by
        obtain rfl | rfl | rfl | rfl : v = 1 ∨ v = 2 ∨ v = 3 ∨ v = 4 := by omega
        · exact ⟨9, rfl, by decide, by decide⟩
        · exact ⟨60, rfl, by decide, by decide⟩
        · exact ⟨10 ^ 9, rfl, by decide, by decide⟩
        · exact ⟨10 ^ 29, rfl, by decide, by decide⟩
      obtain ⟨wd, hw, w0, w1⟩ := tw
      refine q_asg (v := .int wd) (ev_opL1 (el_lst (ea_cons ev_c (ea_cons ev_c (ea_cons (ev_op ev_c ev_c (rv_I ⟨by decide, by decide, by decide⟩)) (ea_cons (ev_op ev_c ev_c (rv_I ⟨by decide, by decide, by decide⟩)) ea_nil)))) (by simp)) (fun H3 e3 => ev_op (ev_var rfl) ev_c rv_I0) (fun p H3 h3 e3 => rv_ixL (sq_of h3) hw)) fun H3 e3 => ?_
      have B3 := B1.ext (m := n + 1) (e2.trans e3) (Nat.le_refl _)
      refine ⟨_, rfl, _, rfl, _, _, rfl, rfl, wide_mul (i := 2) (j := wd) (a := 2) (b := 98) (by decide) (by omega) (by decide) (by decide) (by decide), _, _, rfl, rfl, b, l, ns, n + 1, _, rfl, B3, by omega, by omega, by omega, fun v2 H4 v20 v21 B4 b4 => ?_⟩
      exact ⟨_, rfl, _, _, rfl, rfl, k _ H4 (by omega) B4 ((b1.ex (e2.trans e3)).trans b4)⟩
end
end Hs
namespace Hs
open PySem PySem.Spec PyProof.Rows L2 Evl
theorem cut63 {xs : List V} (h : xs.length ≤ 63) : cutV xs none (some 63) = xs := by
  have e1 : HT.sIx xs.length 0 none = 0 := rfl
  have e2 : HT.sIx xs.length xs.length (some 63) = xs.length := by
    show min (63 : Int).toNat xs.length = xs.length
    omega
  unfold cutV
  rw [e1, e2, List.drop_zero, Nat.sub_zero, List.take_length]
section
variable {P : Program} {w : World} {K : PySem.W.Frag} {mg : Str → Option Value} {base : Heap} {f : Addr} {fd : FuncData}
abbrev sBag : Stmt := top 20
theorem scBag : FnScope ["_law_script", "_law_salt", "_law_cell"] ["_law_script"] (defScope sBag) := ⟨rfl, rfl, rfl, by decide +kernel, rfl, by decide +kernel, by decide +kernel⟩
theorem ok_bag (F : FnP K "_law_bag" sBag f fd) (g_len : mg "len" = none) (g_list : mg "list" = none) : FnOk P w K mg base CX0 1 f fd ["_law_script"] (spBag K) := by
  have nd := scBag.nd
  refine F.ok scBag (fun vs H Q E h => ?_) (fun cdv A outer s H vs Q E hr h => ⟨_, PSs.nox (pss_cons (ps_set (i := 1) nd rfl (.inl rfl) (pe_op op_add pe_int (pe_callB (r := Evl.rLenS K) call_len_seq (by rfl) g_len PySem.boot_len (pa_cons (pe_slice sl_list (pv 0) po_none (po_some pe_int)) pa_nil))))
  (pss_cons (ps_for PassesOwn.never rfl (pi_list (pe_slice sl_list (pv 0) po_none (po_some pe_int))) (pg_name (i := 2) nd rfl (.inl rfl)) (pss_one (ps_set (i := 1) nd rfl (.inl rfl) (pe_op op_modN (pe_op op_add (pe_op op_add (pe_op op_mulW (pv 1) pe_int) (pe_op op_modN (pv 2) pe_int)) pe_int) pe_int))))
  (pss_one (ps_ret (pe_lst (pa_cons (pe_callTy (r := Evl.rListS K) call_list_of (by rfl) g_list (by decide +kernel) (pa_cons (pe_slice sl_list (pv 0) po_none (po_some pe_int)) pa_nil)) (pa_cons pe_int (pa_cons pe_int (pa_cons (pv 1) (pa_cons pe_int pa_nil)))))))))), ?_⟩)
  · obtain ⟨a, ns, rfl, _⟩ := h
    rfl
  · obtain ⟨a, ns, rfl, hS, hl, k⟩ := h
    have hl2 : (ns.map V.int).length ≤ 63 := by rw [List.length_map]; exact hl
    have sl : ∀ {σ : L2.St} {H' : Hp}, σ[0]? = some (some (.ref a)) → Ex H H' → EvL (tSl (rSlL K) (tVar 0) tNoPart (tPart (tC (.int 63)))) σ H' (ns.map V.int) := fun {σ H'} h0 e => by
      have q := el_sl (K := K) (σ := σ) (H := H') (ev_var h0) eo_none (eo_some (i := 63) ev_c) (ex_l e hS)
      rw [cut63 hl2] at q
      exact q
    refine q_asg (ev_op ev_c (ev_lenN (sl rfl (Ex.refl H))) rv_I0) fun H1 e1 => ?_
    refine q_forNLn (sl rfl e1) (fun p i σ' H' => Ex H H' ∧ H' p = some (.lst (ns.map V.int)) ∧ ∃ (s0 : Int) (v : Option V), σ' = [some (.ref a), some (.int s0), v] ∧ 0 ≤ s0 ∧ s0 < 2147483647) ?_ ?_ ?_ ?_
    · intro p H2 hp e2 h2
      exact ⟨e1.trans e2, h2, _, none, rfl, by omega, by omega⟩
    · rintro p i σ' H' hi ⟨_, h, _⟩
      exact sq_of h
    · rintro p i x σ' H' hx ⟨e, h, s0, v, rfl, h0, h1⟩
      obtain ⟨z, rfl⟩ : ∃ z, x = V.int z := by
        rw [List.getElem?_map] at hx
        cases ez : ns[i]? with
        | none =>
          rw [ez] at hx
          cases hx
        | some z =>
          rw [ez] at hx
          exact ⟨z, (Option.some.inj hx).symm⟩
      refine s_asg (ev_op (ev_op (ev_op (ev_op (ev_var rfl) ev_c (rv_I (mul64 (by omega) (by decide)))) (ev_op (ev_var rfl) ev_c (rv_I (show (2147483629 : Int) ≠ 0 by decide))) rv_I0) ev_c rv_I0) ev_c (rv_I (show (2147483647 : Int) ≠ 0 by decide))) fun H2 e2 => ?_
      have hp := modP (i := s0 * 48271 + z.fmod 2147483629 + 7) (j := 2147483647) (by decide)
      exact ⟨e.trans e2, e2 _ _ h, _, _, rfl, hp.1, hp.2⟩
    · rintro p σ' H' ⟨e, h, s0, v, rfl, h0, h1⟩
      refine sl (σ := [some (.ref a), some (.int s0), v]) rfl e H' (Ex.refl _) _ fun q H2 hq e2 h2 => ⟨q, _, rfl, .inl (sq_of h2), fun l hl3 => ⟨_, rfl, sz_of (by simp), fun b hb3 => ?_⟩⟩
      have hne : l ≠ b := fun z => by
        rw [← z, upd_same] at hb3
        cases hb3
      have e3 : Ex H (upd H2 l (.lst (ns.map V.int))) := (e.trans e2).trans (Ex.new hl3)
      refine k b l _ (fresh_back e3 hb3) (fresh_back (e.trans e2) hl3) ⟨⟨0, 0, s0, 0, upd_same, Nat.zero_le _, h0, h1, Nat.le_refl _⟩, ?_, Ne.symm hne⟩ (e3.trans (Ex.new hb3))
      rw [upd_ne hne, upd_same]
/-! ### the text of a fraction -/
def ftx (x : Int × Int) : Str := if x.2 = 1 then Str.ofString (toString x.1) else Str.ofString (toString x.1) ++ "/" ++ Str.ofString (toString x.2)
def spTxt (K : PySem.W.Frag) : Sp := fun vs H Q _ => ∃ (p : Addr) (x : Int × Int), vs = [.ref p] ∧ Fr2 K H p x 300 ∧ RetV (.str (ftx x)) H Q
theorem log300 {x : Int} (h : x.natAbs < 2 ^ 300) : x.natAbs.log2 < 1920 := Nat.lt_trans (PySem.Flt.log2_lt_of (by decide) h) (by decide)
theorem len300 {x : Int} (h : x.natAbs < 2 ^ 300) : (Str.ofString (toString x)).length ≤ 1921 := PyProof.Rows.int_text_len_1921 (log300 h)
abbrev sFtext : Stmt := top 18
theorem scFtext : FnScope ["one", "top", "bottom"] ["one"] (defScope sFtext) := ⟨rfl, rfl, rfl, by decide +kernel, rfl, by decide +kernel, by decide +kernel⟩
theorem ok_ftext (F : FnP K "fraction_text" sFtext f fd) : FnOk P w K mg base CX0 1 f fd ["one"] (spTxt K) := by
  have nd := scFtext.nd
  refine F.ok scFtext (fun vs H Q E h => ?_) (fun cdv A outer s H vs Q E hr h => ⟨_, PSs.nox (pss_cons (ps_asg (pv 0) (pg_tup rfl (pgs_cons (pg_name (i := 1) nd rfl (.inl rfl)) (pgs_cons (pg_name (i := 2) nd rfl (.inl rfl)) pgs_nil))))
  (pss_cons (ps_if (pt_cmpR op_eq (pv 2) pe_int (nomark _)) (pss_one (ps_ret (pe_joined1 (pe_fmt (pv 1))))) pss_nil)
  (pss_one (ps_ret (pe_joined (.cons (pe_fmt (pv 1)) (.cons pe_str (.cons (pe_fmt (pv 2)) .nil)))))))), ?_⟩)
  · obtain ⟨p, x, rfl, _⟩ := h
    rfl
  · obtain ⟨p, x, rfl, hx, k⟩ := h
    refine ⟨_, rfl, p, prV x, rfl, hx.1, rfl, _, _, rfl, _, _, rfl, rfl, ?_⟩
    refine q_when (et_test (ev_op (ev_var rfl) ev_c (rv_eq rfl))) (fun ht H1 e1 => ?_) (fun ht H1 e1 => ?_)
    · have h1 : x.2 = 1 := by
        have := of_decide_eq_true ht
        injection this
      refine ⟨_, rfl, .inr ⟨_, rfl, log300 hx.2.2.1, ?_⟩⟩
      have e : ftx x = Str.ofString (toString x.1) := if_pos h1
      rw [e] at k
      exact k _ e1
    · have h1 : ¬ x.2 = 1 := fun z => by
        have := of_decide_eq_false ht
        exact this (by rw [z])
      have l1 := len300 hx.2.2.1
      have l2 := len300 hx.2.2.2
      have l3 : ("/" : Str).length = 1 := by decide
      refine ⟨_, rfl, .inr ⟨_, rfl, log300 hx.2.2.1, _, rfl, ?_, _, rfl, ?_, _, rfl, .inr ⟨_, rfl, log300 hx.2.2.2, _, rfl, ?_, ?_⟩⟩⟩
      · rw [Str.empty_append]
        exact sz_of (by omega)
      · rw [Str.empty_append, Str.length_append]
        exact sz_of (by omega)
      · rw [Str.empty_append, Str.length_append, Str.length_append]
        exact sz_of (by omega)
      · have e : ftx x = Str.ofString (toString x.1) ++ "/" ++ Str.ofString (toString x.2) := if_neg h1
        rw [Str.empty_append]
        rw [e] at k
        exact k _ e1
end
end Hs
namespace Hs
open PySem PySem.Spec PyProof.Rows L2 Evl
/-! ### two data alike: the law's own comparison -/
def Sm (K : PySem.W.Frag) (H : Hp) : Nat → V → V → Prop
  | 0, _, _ => False
  | d + 1, u, v => (u = v ∧ flatV u = true) ∨ ∃ (a b : Addr) (xs ys : List V), u = .ref a ∧ v = .ref b ∧ ((SqL K H a xs ∧ SqL K H b ys) ∨ (SqT K H a xs ∧ SqT K H b ys)) ∧ xs.length = ys.length ∧ xs.length ≤ 1000 ∧
      ∀ (i : Nat) (x y : V), xs[i]? = some x → ys[i]? = some y → Sm K H d x y
theorem Sm.ext {K : PySem.W.Frag} {H H' : Hp} (e : Ex H H') : ∀ {d : Nat} {u v : V}, Sm K H d u v → Sm K H' d u v
  | 0, _, _, h => h.elim
  | d + 1, u, v, h => by
    rcases h with h | ⟨a, b, xs, ys, h1, h2, h3, h4, h5, h6⟩
    · exact .inl h
    · refine .inr ⟨a, b, xs, ys, h1, h2, ?_, h4, h5, fun i x y hx hy => Sm.ext e (h6 i x y hx hy)⟩
      rcases h3 with ⟨p, q⟩ | ⟨p, q⟩
      · exact .inl ⟨ex_l e p, ex_l e q⟩
      · exact .inr ⟨ex_t e p, ex_t e q⟩
def spSame (K : PySem.W.Frag) (d : Nat) : Sp := fun vs H Q _ => ∃ u v : V, vs = [u, v] ∧ Sm K H d u v ∧ RetV (.bl true) H Q
/-- of the built-in type t, whatever is new -/
def Ty (K : PySem.W.Frag) (H : Hp) (x : V) (t : String) : Prop := ∀ H1, Ex H H1 → TyX K H1 x (.type t)
theorem ty_l {K : PySem.W.Frag} {H : Hp} {a : Addr} {xs : List V} (h : SqL K H a xs) : Ty K H (.ref a) "list" := fun H1 e => by
  rcases ex_l e h with (h | ⟨o, h⟩) | ⟨o, its, n, h1, h2, _⟩
  · exact .base (.lst h)
  · exact .base (.frz h)
  · exact .kList h1 h2
theorem ty_t {K : PySem.W.Frag} {H : Hp} {a : Addr} {xs : List V} (h : SqT K H a xs) : Ty K H (.ref a) "tuple" := fun H1 e => by
  rcases ex_t e h with (h | ⟨o, h⟩) | ⟨o, its, n, h1, h2, _⟩
  · exact .base (.tup h)
  · exact .fTuple h
  · exact .kTuple h1 h2
theorem ty_bl {K : PySem.W.Frag} {H : Hp} {b : Bool} : Ty K H (.bl b) "bool" := fun _ _ => .base (.bl b)
theorem ty_int {K : PySem.W.Frag} {H : Hp} {b : Int} : Ty K H (.int b) "int" := fun _ _ => .base (.int b)
theorem ty_str {K : PySem.W.Frag} {H : Hp} {b : Str} : Ty K H (.str b) "str" := fun _ _ => .base (.str b)
theorem ev_isi {K : PySem.W.Frag} {σ : L2.St} {H : Hp} {te : TE} {x : V} {t c : String} {b : Bool} (h : Ev te σ H x) (ht : Ty K H x t) (hk : kitB t c = some b) : Ev (tCB (rIsi K) (tCons te (tCons (tC (.ty c)) tNil))) σ H (.bl b) := fun H1 e Q q =>
  h H1 e _ fun H2 e2 => ⟨x, .ty c, .type t, .type c, b, rfl, .ty c, ht H2 (e.trans e2), kit_ty hk, q H2 e2⟩
theorem ev_isi2 {K : PySem.W.Frag} {σ : L2.St} {H : Hp} {te : TE} {x : V} {t c c' : String} {b b' : Bool} (h : Ev te σ H x) (ht : Ty K H x t) (hk : kitB t c = some b) (hk' : kitB t c' = some b') :
    Ev (tCB (rIsiT K) (tCons te (tCons (tTup (tCons (tC (.ty c)) (tCons (tC (.ty c')) tNil))) tNil))) σ H (.bl (b || b')) := fun H1 e Q q =>
  h H1 e _ fun H2 e2 => ⟨sz_of (by simp), fun p hp => ⟨x, p, [.ty c, .ty c'], .type t, [.type c, .type c'], b || b', rfl, upd_same, .cons (.ty c) (.cons (.ty c') .nil), ht _ ((e.trans e2).trans (Ex.new hp)), by
    refine kitAny_cons (kit_ty hk) (fun hb => ?_) (fun hb => by rw [hb] <;> rfl)
    rw [hb, Bool.false_or]
    exact kitAny_cons (kit_ty hk') (fun hb' => by rw [hb']; exact kitAny_nil) (fun hb' => hb'), q _ (e2.trans (Ex.new hp))⟩⟩
theorem rv_ixQ {K : PySem.W.Frag} {H : Hp} {p : Addr} {xs : List V} {i : Int} {v : V} (h : SqL K H p xs ∨ SqT K H p xs) (ha : atI xs i = some v) : RV (rIx K) (.ref p) (.int i) H v := fun H1 e Q q => by
  rcases h with h | h
  · exact .inl (rv_ixL h ha H1 e Q q)
  · exact .inr (.inl (rv_ixT h ha H1 e Q q))
theorem ev_lenQ {K : PySem.W.Frag} {σ : L2.St} {H : Hp} {ta : TE} {p : Addr} {xs : List V} (ha : Ev ta σ H (.ref p)) (h : SqL K H p xs ∨ SqT K H p xs) : Ev (tCB (rLenS K) (tCons ta tNil)) σ H (.int (xs.length : Int)) := fun H1 e Q q =>
  ha H1 e _ fun H2 e2 => ⟨p, xs, rfl, h.imp (fun h => ex_l (e.trans e2) h) (fun h => ex_t (e.trans e2) h), q H2 e2⟩
theorem given_true (n : Nat) : given n (fun _ => true) (fun _ => V.bl true) = (List.replicate n true).map V.bl := by
  induction n with
  | zero => rfl
  | succ n ih =>
    rw [given_yes rfl, ih, List.replicate_succ', List.map_append] <;> rfl
theorem ev_allT {K : PySem.W.Frag} {σ : L2.St} {H : Hp} {te : TE} {n : Nat} (h : EvL te σ H (given n (fun _ => true) (fun _ => V.bl true))) : Ev (tCB (rAll K) (tCons te tNil)) σ H (.bl true) := fun H1 e Q q =>
  h H1 e _ fun p H2 _ e2 h2 => ⟨p, List.replicate n true, rfl, sq_of (by rw [h2, given_true]), by
    have e3 : (List.replicate n true).all id = true := by simp
    rw [e3]
    exact q H2 e2⟩
theorem kb_bool_bool : kitB "bool" "bool" = some true := by decide +kernel
theorem kb_bool_int : kitB "bool" "int" = some true := by decide +kernel
theorem kb_bool_str : kitB "bool" "str" = some false := by decide +kernel
theorem kb_bool_list : kitB "bool" "list" = some false := by decide +kernel
theorem kb_bool_tuple : kitB "bool" "tuple" = some false := by decide +kernel
theorem kb_int_bool : kitB "int" "bool" = some false := by decide +kernel
theorem kb_int_int : kitB "int" "int" = some true := by decide +kernel
theorem kb_int_str : kitB "int" "str" = some false := by decide +kernel
theorem kb_int_list : kitB "int" "list" = some false := by decide +kernel
theorem kb_int_tuple : kitB "int" "tuple" = some false := by decide +kernel
theorem kb_str_bool : kitB "str" "bool" = some false := by decide +kernel
theorem kb_str_int : kitB "str" "int" = some false := by decide +kernel
theorem kb_str_str : kitB "str" "str" = some true := by decide +kernel
theorem kb_str_list : kitB "str" "list" = some false := by decide +kernel
theorem kb_str_tuple : kitB "str" "tuple" = some false := by decide +kernel
theorem kb_list_bool : kitB "list" "bool" = some false := by decide +kernel
theorem kb_list_int : kitB "list" "int" = some false := by decide +kernel
theorem kb_list_str : kitB "list" "str" = some false := by decide +kernel
theorem kb_list_list : kitB "list" "list" = some true := by decide +kernel
theorem kb_list_tuple : kitB "list" "tuple" = some false := by decide +kernel
theorem kb_tuple_bool : kitB "tuple" "bool" = some false := by decide +kernel
theorem kb_tuple_int : kitB "tuple" "int" = some false := by decide +kernel
theorem kb_tuple_str : kitB "tuple" "str" = some false := by decide +kernel
theorem kb_tuple_list : kitB "tuple" "list" = some false := by decide +kernel
theorem kb_tuple_tuple : kitB "tuple" "tuple" = some true := by decide +kernel
section
variable {P : Program} {w : World} {K : PySem.W.Frag} {mg : Str → Option Value} {base : Heap} {f : Addr} {fd : FuncData}
abbrev sSame : Stmt := top 22
theorem scSame : FnScope ["_law_got", "_law_due", "_law_k"] ["_law_got", "_law_due"] (defScope sSame) := ⟨rfl, rfl, rfl, by decide +kernel, rfl, by decide +kernel, by decide +kernel⟩
theorem ok_same (F : FnP K "_law_same" sSame f fd) (m : mg "_law_same" = some (.ref f)) (g_len : mg "len" = none) (g_isinstance : mg "isinstance" = none) (g_bool : mg "bool" = none) (g_int : mg "int" = none) (g_str : mg "str" = none) (g_list : mg "list" = none) (g_tuple : mg "tuple" = none)
    (g_all : mg "all" = none) (g_range : mg "range" = none) : ∀ d, FnOk P w K mg base CX0 d f fd ["_law_got", "_law_due"] (spSame K d)
  | 0 => ⟨fun _ _ _ _ h => by
      obtain ⟨u, v, _, h, _⟩ := h
      exact h.elim, fun _ _ _ _ _ _ _ _ _ _ _ _ _ h => by
      obtain ⟨u, v, _, h, _⟩ := h
      exact h.elim⟩
  | d + 1 => by
    have O__law_same : Own P w K mg base d "_law_same" ["_law_got", "_law_due"] (spSame K d) := own_of F m (ok_same F m g_len g_isinstance g_bool g_int g_str g_list g_tuple g_all g_range d) fun _ _ _ _ _ _ us hl => match us, hl with | [_, _], _ => rfl
    have nd := scSame.nd
    refine F.ok scSame (fun vs H Q E h => ?_) (fun cdv A outer s H vs Q E hr h => ⟨_, PSs.nox (pss_cons (ps_if (PW.pt (pw_or (pt_cmpR op_isN (pv 1) pe_non (nomark _)) (pw_or1 (pt_cmpR op_isN (pv 0) pe_non (nomark _))))) (pss_one (ps_ret (pe_and (pe_cmpR op_isN (pv 1) pe_non (nomark _)) (pe_one (pe_cmpR op_isN (pv 0) pe_non (nomark _)))))) pss_nil)
  (pss_cons (ps_if (PW.pt (pw_or (pt_val (pe_callB (r := rIsi K) call_isi (by rfl) g_isinstance (by decide +kernel) (pa_cons (pv 1) (pa_cons (pe_bltn (v := .ty "bool") (by rfl) g_bool (by decide +kernel) rfl) pa_nil)))) (pw_or1 (pt_val (pe_callB (r := rIsi K) call_isi (by rfl) g_isinstance (by decide +kernel) (pa_cons (pv 0) (pa_cons (pe_bltn (v := .ty "bool") (by rfl) g_bool (by decide +kernel) rfl) pa_nil))))))) (pss_one (ps_ret (pe_and (pe_callB (r := rIsi K) call_isi (by rfl) g_isinstance (by decide +kernel) (pa_cons (pv 1) (pa_cons (pe_bltn (v := .ty "bool") (by rfl) g_bool (by decide +kernel) rfl) pa_nil))) (pe_and (pe_callB (r := rIsi K) call_isi (by rfl) g_isinstance (by decide +kernel) (pa_cons (pv 0) (pa_cons (pe_bltn (v := .ty "bool") (by rfl) g_bool (by decide +kernel) rfl) pa_nil))) (pe_one (pe_cmpR op_eq (pv 0) (pv 1) (nomark _))))))) pss_nil)
  (pss_cons (ps_if (pt_val (pe_callB (r := rIsiT K) call_isiT (by rfl) g_isinstance (by decide +kernel) (pa_cons (pv 1) (pa_cons (pe_tup (pa_cons (pe_bltn (v := .ty "int") (by rfl) g_int (by decide +kernel) rfl) (pa_cons (pe_bltn (v := .ty "str") (by rfl) g_str (by decide +kernel) rfl) pa_nil))) pa_nil)))) (pss_one (ps_ret (pe_and (pe_cmpR op_eq (pe_callB (r := rIsi K) call_isi (by rfl) g_isinstance (by decide +kernel) (pa_cons (pv 0) (pa_cons (pe_bltn (v := .ty "int") (by rfl) g_int (by decide +kernel) rfl) pa_nil))) (pe_callB (r := rIsi K) call_isi (by rfl) g_isinstance (by decide +kernel) (pa_cons (pv 1) (pa_cons (pe_bltn (v := .ty "int") (by rfl) g_int (by decide +kernel) rfl) pa_nil))) (nomark _)) (pe_one (pe_cmpR op_eq (pv 0) (pv 1) (nomark _)))))) pss_nil)
  (pss_cons (ps_if (PW.pt (pw_or (pt_cmpR op_ne (pe_callB (r := rIsi K) call_isi (by rfl) g_isinstance (by decide +kernel) (pa_cons (pv 1) (pa_cons (pe_bltn (v := .ty "list") (by rfl) g_list (by decide +kernel) rfl) pa_nil))) (pe_callB (r := rIsi K) call_isi (by rfl) g_isinstance (by decide +kernel) (pa_cons (pv 0) (pa_cons (pe_bltn (v := .ty "list") (by rfl) g_list (by decide +kernel) rfl) pa_nil))) (nomark _)) (pw_or1 (pt_cmpR op_ne (pe_callB (r := rIsi K) call_isi (by rfl) g_isinstance (by decide +kernel) (pa_cons (pv 1) (pa_cons (pe_bltn (v := .ty "tuple") (by rfl) g_tuple (by decide +kernel) rfl) pa_nil))) (pe_callB (r := rIsi K) call_isi (by rfl) g_isinstance (by decide +kernel) (pa_cons (pv 0) (pa_cons (pe_bltn (v := .ty "tuple") (by rfl) g_tuple (by decide +kernel) rfl) pa_nil))) (nomark _))))) (pss_one (ps_ret pe_bl)) pss_nil)
  (pss_one (ps_ret (pe_and (pe_cmpR op_eq (pe_callB (r := Evl.rLenS K) call_len_seq (by rfl) g_len PySem.boot_len (pa_cons (pv 0) pa_nil)) (pe_callB (r := Evl.rLenS K) call_len_seq (by rfl) g_len PySem.boot_len (pa_cons (pv 1) pa_nil)) (nomark _)) (pe_one (pe_callB (r := rAll K) (cr_all rfl) (by rfl) g_all (by decide +kernel) (pa_cons (pe_lc (own := [("_law_k", 2)]) rfl nd (pi_range1 (by rfl) g_range (pa_cons (pe_callB (r := Evl.rLenS K) call_len_seq (by rfl) g_len PySem.boot_len (pa_cons (pv 1) pa_nil)) pa_nil)) (blkOk_by (N := ["_law_got", "_law_due", "_law_k"]) (sc := defScope (Hs.top 22)) (by decide +kernel)) (fun _ _ _ _ _ => (pg_name (i := 2) nd rfl (Or.inl rfl))) (fun _ _ _ _ _ => pts_nil) (fun _ _ _ _ _ => (Hs.pe_own O__law_same hr (by first | decide | omega) (by rfl) (pa_cons (pe_ix (r := rIx K) ix_seq (pv 0) (pv 2) (fun _ _ => rfl)) (pa_cons (pe_ix (r := rIx K) ix_seq (pv 1) (pv 2) (fun _ _ => rfl)) pa_nil))))) pa_nil)))))))))), ?_⟩)
    · obtain ⟨u, v, rfl, _⟩ := h
      rfl
    · obtain ⟨u, v, rfl, h, k⟩ := h
      rcases h with ⟨rfl, hf⟩ | ⟨a, b, xs, ys, rfl, rfl, hq, hlen, hz, hi⟩
      · cases u with
        | non =>
          refine q_when (et_or (et_test (ev_op (ev_var rfl) ev_c (rv_val fun H1 _ Q q => ⟨rfl, q⟩))) (fun _ => et_test (ev_op (ev_var rfl) ev_c (rv_val fun H1 _ Q q => ⟨rfl, q⟩)))) (fun ht H1 e1 => ?_) (fun ht => by simp at ht)
          exact s_ret (ev_is (ev_andV (ev_op (ev_var rfl) ev_c (rv_val fun H1 _ Q q => ⟨rfl, q⟩)) (fun _ => ev_op (ev_var rfl) ev_c (rv_val fun H1 _ Q q => ⟨rfl, q⟩))) (by simp)) fun H2 e2 => k _ (e1.trans e2)
        | bl y =>
          refine q_when (b := false) (et_is (et_or (et_test (ev_op (ev_var rfl) ev_c (rv_val fun H1 _ Q q => ⟨rfl, q⟩))) (fun _ => et_test (ev_op (ev_var rfl) ev_c (rv_val fun H1 _ Q q => ⟨rfl, q⟩)))) (by simp)) (fun ht => Bool.noConfusion ht) (fun _ H1 e1 => ?_)
          refine q_when (b := true) (et_is (et_or (et_B (ev_isi (ev_var rfl) ty_bl kb_bool_bool)) (fun _ => et_B (ev_isi (ev_var rfl) ty_bl kb_bool_bool))) (by simp)) (fun _ H2 e2 => ?_) (fun ht => Bool.noConfusion ht)
          exact s_ret (ev_is (ev_andV (ev_isi (ev_var rfl) ty_bl kb_bool_bool) (fun _ => ev_andV (ev_isi (ev_var rfl) ty_bl kb_bool_bool) (fun _ => ev_op (ev_var rfl) (ev_var rfl) (rv_eq rfl)))) (by simp)) fun H3 e3 => k _ ((e1.trans e2).trans e3)
        | int i =>
          refine q_when (b := false) (et_is (et_or (et_test (ev_op (ev_var rfl) ev_c (rv_val fun H1 _ Q q => ⟨rfl, q⟩))) (fun _ => et_test (ev_op (ev_var rfl) ev_c (rv_val fun H1 _ Q q => ⟨rfl, q⟩)))) (by simp)) (fun ht => Bool.noConfusion ht) (fun _ H1 e1 => ?_)
          refine q_when (b := false) (et_is (et_or (et_B (ev_isi (ev_var rfl) ty_int kb_int_bool)) (fun _ => et_B (ev_isi (ev_var rfl) ty_int kb_int_bool))) (by simp)) (fun ht => Bool.noConfusion ht) (fun _ H2 e2 => ?_)
          refine q_when (b := true) (et_is (et_B (ev_isi2 (ev_var rfl) ty_int kb_int_int kb_int_str)) (by simp)) (fun _ H3 e3 => ?_) (fun ht => Bool.noConfusion ht)
          exact s_ret (ev_is (ev_andV (ev_op (ev_isi (ev_var rfl) ty_int kb_int_int) (ev_isi (ev_var rfl) ty_int kb_int_int) (rv_eq rfl)) (fun _ => ev_op (ev_var rfl) (ev_var rfl) (rv_eq rfl))) (by simp)) fun H4 e4 => k _ (((e1.trans e2).trans e3).trans e4)
        | str x =>
          refine q_when (b := false) (et_is (et_or (et_test (ev_op (ev_var rfl) ev_c (rv_val fun H1 _ Q q => ⟨rfl, q⟩))) (fun _ => et_test (ev_op (ev_var rfl) ev_c (rv_val fun H1 _ Q q => ⟨rfl, q⟩)))) (by simp)) (fun ht => Bool.noConfusion ht) (fun _ H1 e1 => ?_)
          refine q_when (b := false) (et_is (et_or (et_B (ev_isi (ev_var rfl) ty_str kb_str_bool)) (fun _ => et_B (ev_isi (ev_var rfl) ty_str kb_str_bool))) (by simp)) (fun ht => Bool.noConfusion ht) (fun _ H2 e2 => ?_)
          refine q_when (b := true) (et_is (et_B (ev_isi2 (ev_var rfl) ty_str kb_str_int kb_str_str)) (by simp)) (fun _ H3 e3 => ?_) (fun ht => Bool.noConfusion ht)
          exact s_ret (ev_is (ev_andV (ev_op (ev_isi (ev_var rfl) ty_str kb_str_int) (ev_isi (ev_var rfl) ty_str kb_str_int) (rv_eq rfl)) (fun _ => ev_op (ev_var rfl) (ev_var rfl) (rv_eq rfl))) (by simp)) fun H4 e4 => k _ (((e1.trans e2).trans e3).trans e4)
        | _ => cases hf
      · have ta : ∀ {H' : Hp}, Ex H H' → (Ty K H' (.ref a) "list" ∧ Ty K H' (.ref b) "list") ∨ (Ty K H' (.ref a) "tuple" ∧ Ty K H' (.ref b) "tuple") := fun {H'} e => by
          rcases hq with ⟨p, q⟩ | ⟨p, q⟩
          · exact .inl ⟨ty_l (ex_l e p), ty_l (ex_l e q)⟩
          · exact .inr ⟨ty_t (ex_t e p), ty_t (ex_t e q)⟩
        have qa : ∀ {H' : Hp}, Ex H H' → SqL K H' a xs ∨ SqT K H' a xs := fun {H'} e => hq.imp (fun h => ex_l e h.1) (fun h => ex_t e h.1)
        have qb : ∀ {H' : Hp}, Ex H H' → SqL K H' b ys ∨ SqT K H' b ys := fun {H'} e => hq.imp (fun h => ex_l e h.2) (fun h => ex_t e h.2)
        refine q_when (b := false) (et_is (et_or (et_test (ev_op (ev_var rfl) ev_c (rv_val fun H1 _ Q q => ⟨rfl, q⟩))) (fun _ => et_test (ev_op (ev_var rfl) ev_c (rv_val fun H1 _ Q q => ⟨rfl, q⟩)))) (by simp)) (fun ht => Bool.noConfusion ht) (fun _ H1 e1 => ?_)
        have t2 : ∀ {σ : L2.St} {H' : Hp}, σ[0]? = some (some (.ref a)) → σ[1]? = some (some (.ref b)) → Ex H H' → Ev (tCB (rIsi K) (tCons (tVar 1) (tCons (tC (.ty "bool")) tNil))) σ H' (.bl false) ∧ Ev (tCB (rIsi K) (tCons (tVar 0) (tCons (tC (.ty "bool")) tNil))) σ H' (.bl false) ∧
            Ev (tCB (rIsiT K) (tCons (tVar 1) (tCons (tTup (tCons (tC (.ty "int")) (tCons (tC (.ty "str")) tNil))) tNil))) σ H' (.bl false) ∧
            ∃ b1 b2, Ev (tCB (rIsi K) (tCons (tVar 1) (tCons (tC (.ty "list")) tNil))) σ H' (.bl b1) ∧ Ev (tCB (rIsi K) (tCons (tVar 0) (tCons (tC (.ty "list")) tNil))) σ H' (.bl b1) ∧ Ev (tCB (rIsi K) (tCons (tVar 1) (tCons (tC (.ty "tuple")) tNil))) σ H' (.bl b2) ∧ Ev (tCB (rIsi K) (tCons (tVar 0) (tCons (tC (.ty "tuple")) tNil))) σ H' (.bl b2) := fun {σ H'} h0 h1 e => by
          rcases ta e with ⟨p, q⟩ | ⟨p, q⟩
          · exact ⟨ev_isi (ev_var h1) q kb_list_bool, ev_isi (ev_var h0) p kb_list_bool, ev_isi2 (ev_var h1) q kb_list_int kb_list_str, true, false, ev_isi (ev_var h1) q kb_list_list, ev_isi (ev_var h0) p kb_list_list, ev_isi (ev_var h1) q kb_list_tuple, ev_isi (ev_var h0) p kb_list_tuple⟩
          · exact ⟨ev_isi (ev_var h1) q kb_tuple_bool, ev_isi (ev_var h0) p kb_tuple_bool, ev_isi2 (ev_var h1) q kb_tuple_int kb_tuple_str, false, true, ev_isi (ev_var h1) q kb_tuple_list, ev_isi (ev_var h0) p kb_tuple_list, ev_isi (ev_var h1) q kb_tuple_tuple, ev_isi (ev_var h0) p kb_tuple_tuple⟩
        obtain ⟨i1, i2, _⟩ := t2 (σ := [some (.ref a), some (.ref b), none]) rfl rfl e1
        refine q_when (b := false) (et_is (et_or (et_B i1) (fun _ => et_B i2)) (by simp)) (fun ht => Bool.noConfusion ht) (fun _ H2 e2 => ?_)
        obtain ⟨_, _, i3, _⟩ := t2 (σ := [some (.ref a), some (.ref b), none]) rfl rfl (e1.trans e2)
        refine q_when (b := false) (et_B i3) (fun ht => Bool.noConfusion ht) (fun _ H3 e3 => ?_)
        have e03 := (e1.trans e2).trans e3
        obtain ⟨_, _, _, b1, b2, j1, j2, j3, j4⟩ := t2 (σ := [some (.ref a), some (.ref b), none]) rfl rfl e03
        refine q_when (b := false) (et_is (et_or (et_test (ev_op j1 j2 (rv_ne rfl))) (fun _ => et_test (ev_op j3 j4 (rv_ne rfl)))) (by simp)) (fun ht => Bool.noConfusion ht) (fun _ H4 e4 => ?_)
        have e04 := e03.trans e4
        refine s_ret (ev_is (ev_andV (ev_op (ev_lenQ (ev_var rfl) (qa e04)) (ev_lenQ (ev_var rfl) (qb e04)) (rv_eq rfl)) (fun _ => ev_allT (n := ys.length) ?_)) (by simp [hlen])) fun H5 e5 => k _ (e04.trans e5)
        refine el_lcR1 (n := (ys.length : Int)) (fun _ => true) (fun _ => V.bl true) (ea_cons (ev_lenQ (ev_var rfl) (qb e04)) ea_nil) (by omega) (fun x => rfl) (fun i H6 e6 hi6 H7 e7 Q' q' => q' H7 (Ex.refl H7)) (fun i H6 e6 hi6 _ => ?_)
        have hiy : i < ys.length := by omega
        have hix : i < xs.length := by omega
        have gx : xs[i]? = some xs[i] := List.getElem?_eq_getElem hix
        have gy : ys[i]? = some ys[i] := List.getElem?_eq_getElem hiy
        have e06 := e04.trans e6
        exact ev_call (ea_cons (ev_op (ev_var rfl) (ev_var rfl) (rv_ixQ (qa e06) (atI_nat gx))) (ea_cons (ev_op (ev_var rfl) (ev_var rfl) (rv_ixQ (qb e06) (atI_nat gy))) ea_nil)) fun H7 e7 Q' q' E' => ⟨_, _, rfl, (hi i _ _ gx gy).ext (e06.trans e7), q'⟩
end
end Hs
namespace Hs
open PySem PySem.Spec PyProof.Rows L2
/-! ### own error classes whose __init__ begins with super().__init__(..) -/
section
open PySem.W
variable {prog : Program} {w : World} {A : Around} {E : Value → Shared → Prop} {h : Heap} {g : Array GenState} {d : Drawn} {t : Nat} {os : OsState}
variable {nm q : Str} {C N : Addr} {bs bm bmB : List Value} {hdct : Bool} {sn : List Str} {sub : List Value} {ab : Bool} {col : Option Bool} {dd : Option Addr} {k0 k1 k2 k3 k5 : Option Value} {B newId initId : String}
theorem call_mw (FB : ExcBaseFacts B newId initId bmB) {u e t0 : Addr} {rest : List Value} {Q : Value → Shared → Prop}
    (hC : h.get? C = some (excClassObj nm q C N bs bm hdct sn sub ab col dd k0 k1 k2 k3 k5 newId)) (he : h.get? e = some (HandSPX.excO C t0)) (hu : h.get? u = some (kxs_mw initId e)) (hrest : rest.length ≤ sizeLine)
    (hq : ∀ h' t1, (∀ b o, b ≠ e → h.get? b = some o → h'.get? b = some o) → h'.get? e = some (HandSPX.excO C t1) → Q .none ⟨h', g, d, t, os⟩) :
    wpAny (model prog w) A (call (.ref u) rest) Q E ⟨h, g, d, t, os⟩ := by
  refine wpAny_call (codeAny_of_tree ?_)
  show wpAny _ A.in1 (callAny (.ref u) ⟨rest, []⟩) _ _ _
  simp only [callAny]
  refine wpAny_bind (wpAny_load hu ?_)
  simp only [kxs_mw, show (Value.type "method-wrapper" == Value.type "method" || Value.type "method-wrapper" == Value.type "builtin_function_or_method" || Value.type "method-wrapper" == Value.type "method-wrapper") = true by decide, if_true]
  refine KFB.if_so (by decide) ?_
  refine wpAny_bind (ESX.check_bound FB hC he rfl ?_)
  refine wpAny_bind (wpAny_pure (wpAny_pure ?_))
  refine ⟨plainId_quiet FB.init.plain _, codeAny_builtin FB.initEntry ?_⟩
  exact exc_init_tree (cls := .ref C) (t0 := t0) (dv := none) (c2 := .none) (c3 := .none) (b4 := .bool false) he hrest fun h' k e' _ => hq h' _ k e'
end
end Hs
namespace Hs
open PySem PySem.Spec PyProof.Rows L2
/-- what the written part says of an own error class over ValueError, of its __init__ and of what super() asks -/
structure SupC (P : Program) (K : PySem.W.Frag) (mg : Str → Option Value) (C c cc : Addr) : Prop where
  ox : OexC K C
  code : ∃ (ccl : Value) (cdd : Option Addr) (vs : Array Value) (ccs : Array (Option Value)) (file : Str) (tf : Tok), K.lookup c = some ⟨ccl, cdd, .fields vs, ccs⟩ ∧ vs[2]? = some (.str file tf) ∧ ((P.main.file : Str) == file) = true
  cell : ∃ (cl : Value) (cld : Option Addr) (csl : Array (Option Value)), K.lookup cc = some ⟨cl, cld, .cell (some (.ref C)), csl⟩
  me : PySem.W.mroIn K C (.ref C) = some true
  sup : PySem.W.ks_superIn K C C "__init__" = some (some (.builtin "ValueError.__init__"))
  ve : PySem.W.subIn K (.ref C) (.type "ValueError") = some true
  op : PySem.W.nsIn K cStatics "thirdparty.any" = some none
  gs : mg "super" = none
  top : (P.main.scope.names.lookup ("super" : Str)).isSome = false
theorem sup_walk {X : Cx} {σ : L2.St} {H : Hp} {s : Shared} {C f c cc a : Addr} {fd : FuncData} {oc : Value} {od : Option Addr} {osl : Array (Option Value)} {ar : Arg} {body : List Stmt} {p0 p1 p2 p3 pos0 : Pos} {e : Expr} {ta : TA} {R : Hp → Prop} {pl : Sem Bool}
    (T : SupC X.prog X.K X.mg C c cc) (I : Inv X [] σ H s) (lk : X.K.lookup f = some ⟨oc, od, .func fd, osl⟩) (hp : (fd.params.posonlyargs ++ fd.params.args).head? = some ar)
    (hfu : X.env.func = some f) (hco : X.env.code = .ref c) (hce : X.env.cells.lookup ("__class__" : Str) = some cc) (hks : X.env.kindOf "super" = some .globalImplicit) (hkc : X.env.kindOf "__class__" = some .free) (hN0 : X.N[0]? = some ar.arg) (hl0 : X.env.kindOf ar.arg = some .local)
    (h0 : σ[0]? = some (some (.ref a))) (ea : H a = some (exo a C none)) (hPA : PA X [e] ta) (ht : ta σ H fun us H1 => us.length ≤ 1000 ∧ H1 a = some (exo a C none) ∧ R H1)
    (hst : starEach [e] X.env = [(false, eval e X.env)])
    (hi : interactive X.env = false := by rfl) (hsw : swapsWith (.Call (.Attribute (.Call (.Name "super" p0) [] [] p1) "__init__" p2) [e] [] p3) none pos0.line X.env = pure false := by rfl)
    (he : eval (.Call (.Attribute (.Call (.Name "super" p0) [] [] p1) "__init__" p2) [e] [] p3) X.env = (do
      let ov ← attributeBase (.Call (.Name "super" p0) [] [] p1) "__init__" X.env (eval (.Call (.Name "super" p0) [] [] p1) X.env)
      standAt p2.atName
      let (f, first) ← holding [ov] (getMethod ov "__init__" pl)
      callWith p3 f first (backTo p3 (starEach [e] X.env)) []) := by rfl) :
    _root_.PySem.wpAt (model X.prog X.w) X.A (.func body X.env) (exec (.Expr (.Call (.Attribute (.Call (.Name "super" p0) [] [] p1) "__init__" p2) [e] [] p3) pos0) X.env) (fun fl s' => fl = .next ∧ ∃ H1, Inv X [] σ H1 s' ∧ R H1) X.xe s := by
  obtain ⟨ccl, cdd, vsc, ccs, file, tf, hcode, hv2, hfile⟩ := T.code
  obtain ⟨cl0, cld0, csl0, hcell⟩ := T.cell
  obtain ⟨nm, q, Nn, bs, bm, sn, sub, ab, col, dd, k0, k1, k2, k3, k5, hC, hbm⟩ := T.ox.cls
  have hcl : PySem.W.clsIn X.K C = some { name := nm, bases := bs, mro := .ref C :: bm, ns := Nn, qualname := q, hasDict := true, slotNames := sn, subclasses := sub, abstract := ab, collection := col, hasDel := false } := by unfold PySem.W.clsIn; rw [hC] <;> rfl
  have KX := I.kIn
  obtain ⟨t1, ho⟩ := exo_at I.hok ea
  have hkind := I.ok.kind
  obtain ⟨mb, hb1, hb2⟩ := I.mod.blt
  obtain ⟨m, hns, hloc⟩ := id I.loc
  obtain ⟨u0, ru, lk0⟩ := hloc 0 ar.arg (.ref a) hN0 h0 (.inl hl0)
  obtain rfl : u0 = Value.ref a := ru
  have hself : m ar.arg = some (.ref a) := by
    rcases lk0 with ⟨_, z⟩ | ⟨z | z, _⟩
    · exact z
    · rw [hl0] at z
      cases z
    · rw [hl0] at z
      cases z
  have hDo := KX _ _ hC
  obtain ⟨hp0, g0, d0, tk0, os0⟩ := s
  refine ks_wpAt_Expr_any (ks_wpAt_MethodCall (pl := pl) ?_ he) hi hsw
  refine ks_wpAt_super_base (env := X.env) hks hkc (by decide) hfu (KX _ _ lk) rfl hp hco (KX _ _ hcode) rfl hv2 hfile T.top ?_
  refine PySem.W.ks_loadName_global hkind hks (Calls.loadGlobal_builtin (env := X.env) (by rw [I.ok.glob]; exact I.mod.glob.keeps I.bk) T.gs (by rw [I.ok.blt]; exact hb1.keeps I.bk) ((hb2 "super" (by decide)).trans (by decide +kernel)) ⟨rfl, ?_⟩)
  refine wpAny_loadName_free hkind hkc hce ⟨_, KX _ _ hcell, rfl⟩ ?_
  refine wpAny_loadName_local hkind hl0 hns hself ?_
  refine ks_wpAny_isType_cls hDo rfl ⟨rfl, ?_⟩
  refine ks_wpAny_call_super hDo rfl ho rfl (fun _ z => by cases z) (PySem.W.looks_mroIn KX T.me) fun h1 e1 kp1 => ?_
  have I1 : Inv X [] σ H ⟨h1, g0, d0, tk0, os0⟩ := I.kept (t' := tk0) kp1
  have KX1 := I1.kIn
  obtain ⟨t2, ho1⟩ := exo_at I1.hok ea
  have hI : PySem.W.Looks (model X.prog X.w) h1 (isInstance (.ref a) (.type "ValueError")) true := (show PySem.W.InstAt h1 a _ C none from ⟨ho1, rfl, rfl, trivial⟩).type.andThen (PySem.W.looks_subIn KX1 T.ve)
  have hmro : PySem.W.Looks (model X.prog X.w) h1 (mroOf (.ref C)) (.ref C :: bm) := (PySem.W.looks_clsIn KX1 hcl).andThen .now
  have hsupr := T.sup
  unfold PySem.W.ks_superIn at hsupr
  rw [hcl] at hsupr
  have hxC : a ≠ C := fun z => by
    have w1 := KX1 _ _ hC
    rw [← z, ho1] at w1
    cases w1
  refine PySem.W.kxs_getMethod PySem.W.kxs_ValueError e1 (PySem.W.looks_opaque KX1 T.op) hmro rfl KX1 hsupr hI hxC (by decide) ?_
  have kp2 : ∀ b o, h1.get? b = some o → (h1.push (PySem.W.kxs_mw "ValueError.__init__" a)).get? b = some o := fun b o z => Heap.get?_push_of_some _ z
  have I2 : Inv X [] σ H ⟨h1.push (PySem.W.kxs_mw "ValueError.__init__" a), g0, d0, tk0 + 1, os0⟩ := I1.kept (t' := tk0 + 1) kp2
  have hu2 : (h1.push (PySem.W.kxs_mw "ValueError.__init__" a)).get? h1.objs.size = some (PySem.W.kxs_mw "ValueError.__init__" a) := Heap.get?_push_at rfl rfl
  have nu : H h1.objs.size = none := I1.hok.fresh (Nat.le_refl _)
  have I3 : Inv X [(h1.objs.size, PySem.W.kxs_mw "ValueError.__init__" a)] σ H ⟨h1.push (PySem.W.kxs_mw "ValueError.__init__" a), g0, d0, tk0 + 1, os0⟩ := I2.pins_of fun p hp => by
    rcases List.mem_cons.mp hp with z | z
    · subst z
      exact ⟨hu2, nu, fun z => Nat.lt_irrefl _ (z ▸ I1.lt), I1.nofs (Nat.le_refl _), fun v z => by cases z⟩
    · cases z
  show wpAny _ _ (callWith p3 (.ref h1.objs.size) [] (backTo p3 (starEach [e] X.env)) []) _ _ _
  have run := hPA.run p3 _ _ σ H _ I3 ht
  rw [hst] at run ⊢
  refine PySem.W.kxs_callWith (i := "ValueError.__init__") (x := a) rfl (Calls.evalArgs_plain (wpAny_mono run (fun us s2 z => ?_) fun _ _ z => z))
  obtain ⟨vs2, H2, I4, r4, hz, ea2, hR⟩ := z
  have hu4 := (I4.pin (h1.objs.size, PySem.W.kxs_mw "ValueError.__init__" a) (List.mem_append_right _ (List.mem_cons_self ..))).1
  obtain ⟨t4, ho4⟩ := exo_at I4.hok ea2
  have hlen : us.length ≤ sizeLine := by
    rw [← Paired.length r4, sizeLine_eq]
    omega
  obtain ⟨hp4, g4, d4, tk4, os4⟩ := s2
  refine ⟨hu4, call_mw F.excBase_ValueError (I4.kIn _ _ hC) ho4 hu4 hlen fun h' t5 k5 hx5 => ⟨rfl, H2, ?_, hR⟩⟩
  have J := I4.write (t' := tk4) (x := a) (e := a) (o := exo a C none) (by rw [ea2]; exact True.intro) (.inl rfl) k5 ⟨_, hx5⟩ (exo_ok hx5)
  have eu : upd H2 a (exo a C none) = H2 := by
    funext b
    by_cases hb : b = a
    · rw [hb, upd_same, ea2]
    · rw [upd_ne hb]
  rw [eu] at J
  exact J.pins_of fun p hp => by cases hp
theorem sup_ok {P : Program} {w : World} {K : PySem.W.Frag} {mg : Str → Option Value} {base : Heap} {k : Nat} {N ps : List Str} {C f c cc : Addr} {name qual : Str} {params : Arguments} {p0 p1 p2 p3 pos0 : Pos} {e : Expr} {rest : List Stmt} {scope : Scope}
    {dV kV doc pm ct oc : Value} {an od : Option Addr} {osl : Array (Option Value)} {ar : Arg} {sp : Sp} {pl : Addr → Sem Bool} (T : SupC P K mg C c cc)
    (lk : K.lookup f = some ⟨oc, od, .func (PySem.W.fnX name qual params (.Expr (.Call (.Attribute (.Call (.Name "super" p0) [] [] p1) "__init__" p2) [e] [] p3) pos0 :: rest) scope [("__class__", cc)] dV kV doc pm an (.ref c) ct), osl⟩)
    (hcd : PySem.W.codeIn K (.ref c) qual = true) (S : NdefX.NScope N ps ["__class__"] scope) (hks : scope.names.lookup ("super" : Str) = some .globalImplicit)
    (hp : (params.posonlyargs ++ params.args).head? = some ar) (hN0 : N[0]? = some ar.arg) (hl0 : scope.names.lookup ar.arg = some .local) (len : ∀ vs H Q E, sp vs H Q E → vs.length = ps.length)
    (hbody : ∀ (A : Around) (outer : List Env) (s : Shared) (H : Hp) (vs : List V) (Q : VK) (E : XK), Room k (A.deeper (NdefX.envF ⟨name, qual, params, [], scope, [("__class__", cc)], c⟩ f s.heap.objs.size)) → sp vs H Q E →
      ∃ (a : Addr) (ta : TA) (t : TS), (NdefX.startF N vs [none])[0]? = some (some (.ref a)) ∧ H a = some (exo a C none) ∧ PA (NdefX.ncx CX0 P w K mg base N ⟨name, qual, params, [], scope, [("__class__", cc)], c⟩ f A outer s H E).nox [e] ta ∧
        PSs (NdefX.ncx CX0 P w K mg base N ⟨name, qual, params, [], scope, [("__class__", cc)], c⟩ f A outer s H E).nox rest t ∧
        ta (NdefX.startF N vs [none]) H fun us H1 => us.length ≤ 1000 ∧ H1 a = some (exo a C none) ∧ t { nx := fun _ H' => Q .non H', rt := Q } (NdefX.startF N vs [none]) H1)
    (hst : ∀ env : Env, starEach [e] env = [(false, eval e env)]) (hi : ∀ L : Addr, interactive (NdefX.envF ⟨name, qual, params, [], scope, [("__class__", cc)], c⟩ f L) = false)
    (hsw : ∀ L : Addr, swapsWith (.Call (.Attribute (.Call (.Name "super" p0) [] [] p1) "__init__" p2) [e] [] p3) none pos0.line (NdefX.envF ⟨name, qual, params, [], scope, [("__class__", cc)], c⟩ f L) = pure false)
    (he : ∀ L : Addr, eval (.Call (.Attribute (.Call (.Name "super" p0) [] [] p1) "__init__" p2) [e] [] p3) (NdefX.envF ⟨name, qual, params, [], scope, [("__class__", cc)], c⟩ f L) = (do
      let ov ← attributeBase (.Call (.Name "super" p0) [] [] p1) "__init__" (NdefX.envF ⟨name, qual, params, [], scope, [("__class__", cc)], c⟩ f L) (eval (.Call (.Name "super" p0) [] [] p1) (NdefX.envF ⟨name, qual, params, [], scope, [("__class__", cc)], c⟩ f L))
      standAt p2.atName
      let (ff, first) ← holding [ov] (getMethod ov "__init__" (pl L))
      callWith p3 ff first (backTo p3 (starEach [e] (NdefX.envF ⟨name, qual, params, [], scope, [("__class__", cc)], c⟩ f L))) [])) :
    FnOk P w K mg base CX0 (k + 1) f (PySem.W.fnX name qual params (.Expr (.Call (.Attribute (.Call (.Name "super" p0) [] [] p1) "__init__" p2) [e] [] p3) pos0 :: rest) scope [("__class__", cc)] dV kV doc pm an (.ref c) ct) ps sp := by
  refine ⟨len, fun A outer s H args us vs Q E hr e0 hb r hsp => ?_⟩
  have hl := len _ _ _ _ hsp
  have bk : ∀ b o, base.get? b = some o → s.heap.get? b = some o := fun b o e => (e0.bs b o e).1
  have KX : K.In s.heap := e0.mod.kin.keeps bk
  have lim : s.heap.NoLimit := e0.mod.nolimit.keeps bk
  obtain ⟨cl0, cld0, csl0, hcell⟩ := T.cell
  have CA : NdefX.CellsAt [(("__class__" : Str), cc)] ["__class__"] [none] s.heap H := by
    have bc := e0.mod.kin cc _ hcell
    have z := e0.bs cc _ bc
    have only : ∀ y c', ([(("__class__" : Str), cc)] : List (Str × Addr)).lookup y = some c' → y = "__class__" ∧ c' = cc := fun y c' h => by
      have m := PySem.mem_of_lookup h
      rcases List.mem_cons.mp m with q | q
      · injection q with q1 q2
        exact ⟨q1, q2⟩
      · cases q
    refine ⟨rfl, fun y c' h => ?_, fun x y c' h1 h2 => (only x c' h1).1.trans (only y c' h2).1.symm, fun i y h => ?_⟩
    · obtain ⟨_, rfl⟩ := only y c' h
      exact ⟨z.2, _, _, z.1, rfl⟩
    · cases i with
      | zero =>
        have e : "__class__" = y := Option.some.inj h
        subst e
        exact ⟨cc, by simp [List.lookup], fun v hv => by cases hv⟩
      | succ i => cases h
  obtain ⟨a, ta, t, h0, hHa, hPA, hPS, ht⟩ := hbody A outer s H vs Q E (hr.deeper _) hsp
  refine ks_codeAny_call_defAt (binds := ps.zip us) hr.depth (KX _ _ lk) rfl lim (PySem.W.codeRec_of KX hcd) rfl hb S.nocell (fun ⟨n, _⟩ hy => S.par n (List.of_mem_zip hy).1) (fun h₁ hns kp => ?_) S.co S.gen S.kind
  have I : Inv (NdefX.ncx CX0 P w K mg base N ⟨name, qual, params, [], scope, [("__class__", cc)], c⟩ f A outer s H E).nox [] (NdefX.startF N vs [none]) H { s with heap := h₁, toks := s.toks + (ps.zip us).length } :=
    (NdefX.inv_startN (F := ⟨name, qual, params, [], scope, [("__class__", cc)], c⟩) S hr.hd e0 hl r CA hns kp).wish _
  refine ks_wpAt_execs_cons (ks_wpAt_mono (sup_walk (X := (NdefX.ncx CX0 P w K mg base N ⟨name, qual, params, [], scope, [("__class__", cc)], c⟩ f A outer s H E).nox) (R := fun H1 => t { nx := fun _ H' => Q .non H', rt := Q } (NdefX.startF N vs [none]) H1)
    T I lk hp rfl rfl rfl hks (S.frk _ (by simp)) hN0 hl0 h0 hHa hPA ht (hst _) (hi _) (hsw _) (he _)) (fun fl s' z => ?_) fun _ _ z => z.elim)
  obtain ⟨rfl, H1, J, hR⟩ := z
  refine wpAt_of_wpAny (wpAny_mono (hPS.run [] s' _ H1 _ J hR) (fun fl s2 z => ?_) fun _ _ z => z.elim)
  have fin : ∀ {σ' : L2.St} {H' : Hp} {v : V} {u : Value}, Inv (NdefX.ncx CX0 P w K mg base N ⟨name, qual, params, [], scope, [("__class__", cc)], c⟩ f A outer s H E).nox [] σ' H' s2 → RelV v u → Q v H' → CE outer P w H s Q u s2 :=
    fun {σ' H' v u} J rv q => ⟨v, H', J.os, J.bare, J.base, J.hok, rv, q⟩
  cases fl with
  | ret u =>
    obtain ⟨v, σ', H', J, rv, q⟩ := z
    exact fin J rv q
  | next =>
    obtain ⟨σ', H', J, q⟩ := z
    exact fin (v := V.non) (u := Value.none) J rfl q
  | brk =>
    obtain ⟨_, _, _, q⟩ := z
    exact False.elim q
  | cont =>
    obtain ⟨_, _, _, q⟩ := z
    exact False.elim q
end Hs
namespace Hs
open PySem PySem.Spec PyProof.Rows L2 Evl
/-- C(), C's own __init__ keeping sp -/
theorem pmk_oex0 {X : Cx} {CX : CXT} {x : Str} {C fI : Addr} {k : Nat} {fd : FuncData} {ps : List Str} {sp : Sp} {ds : List Value} {dvs : List V} {p pos : Pos} (T : OexC X.K C) (iC : PySem.W.findIn X.K (.ref C) "__init__" = some (some (.ref fI))) (tI : PySem.W.typeIn X.K (.ref fI) = some (.type "function"))
    (F1 : FnOk X.prog X.w X.K X.mg X.base CX k fI fd ps sp) (hr : Room (k + 1) X.A) (hb : Binds X.K fd ps ds) (hd : Vals dvs ds) (hx : Passes CX X (fun _ _ _ => False)) (hg : Gl X x) (hm : X.mg x = some (.ref C))
    (hdb : (x == ("__debug__" : Str)) = false := by decide) : PMk X (.Call (.Name x p) [] [] pos) (tMkO C sp dvs tNil) := by
  intro pins s σ H Q I h
  obtain ⟨nm, q, N, bs, bm, sn, sub, ab, col, dd, k0, k1, k2, k3, k5, hC, hbm⟩ := T.cls
  refine wpAny_Call_Name_kw (ld_glob I hg hm ?_ hdb)
  refine PySem.W.callWith_K0 I.kIn T.kC ?_
  show wpAny _ _ (call (.ref C) []) _ _ _
  obtain ⟨hp, g, dr, tk, os⟩ := s
  have hsz : hp.objs.size ≤ hp.objs.size + 1 := Nat.le_succ _
  have hn : H (hp.objs.size + 1) = none := I.hok.fresh hsz
  have hq := h.2 (hp.objs.size + 1) hn
  have kk : ∀ b o, hp.get? b = some o → ((hp.push (PySem.W.kdv_tup [])).push (PySem.HandSPX.excO C hp.objs.size)).get? b = some o := fun b o e => Heap.get?_push_of_some _ (Heap.get?_push_of_some _ e)
  have hget : ((hp.push (PySem.W.kdv_tup [])).push (PySem.HandSPX.excO C hp.objs.size)).get? (hp.objs.size + 1) = some (PySem.HandSPX.excO C hp.objs.size) := by heap_get
  have I2 : Inv X pins σ (upd H (hp.objs.size + 1) (exo (hp.objs.size + 1) C none)) ⟨(hp.push (PySem.W.kdv_tup [])).push (PySem.HandSPX.excO C hp.objs.size), g, dr, tk, os⟩ :=
    I.laid (t' := tk) (a := hp.objs.size + 1) (o := exo (hp.objs.size + 1) C none) (h' := (hp.push (PySem.W.kdv_tup [])).push (PySem.HandSPX.excO C hp.objs.size)) kk hsz (exo_ok hget)
  have r2 : Vals (V.ref (hp.objs.size + 1) :: ([] ++ dvs)) ([Value.ref (hp.objs.size + 1)] ++ ds) := .cons rfl hd
  have hl : (Value.ref (hp.objs.size + 1) :: [] ++ ds).length = ps.length := by
    have e := r2.length
    rw [F1.len _ _ _ _ hq] at e
    exact e.symm
  refine wpAny_call (PySem.HandSPX.call_own F.excBase_ValueError (fun Y => PySem.HandSPX.refsVE_contains Y bm hbm) (I.kIn _ _ hC) (PySem.W.looks_findIn I.kIn iC) (fun self => PySem.W.bind_fn I.kIn self tI) (Nat.zero_le _)
    (codeAny_mono (F1.run _ X.stack _ _ ⟨[Value.ref (hp.objs.size + 1)], []⟩ ([Value.ref (hp.objs.size + 1)] ++ ds) _ _ (fun _ _ _ => False) (hr.make C [] []) (I2.env0.make C [] []) (hb _ [Value.ref (hp.objs.size + 1)] I2.kIn hl) r2 hq) fun r s' hq' => ?_))
  cases r with
  | error er => exact hx pins σ _ _ er s' I2 hq'
  | ok fl =>
    cases fl with
    | ret u =>
      obtain ⟨v, H2, os2, bare2, un2, hok2, rv, ev, d, fs, ea, ed, hd1, q2⟩ := hq'
      subst ev
      obtain ⟨h2, g2, d2, t2, os'⟩ := s'
      exact ⟨rv, mk_end (raises_own T.exC T.tyC) I hsz kk un2 hok2 os2 bare2 ea ed hd1 q2⟩
    | next => exact False.elim hq'
    | brk => exact False.elim hq'
    | cont => exact False.elim hq'
/-- __init__ of an error with its word alone -/
def spErr (C : Addr) (wd : Str) : Sp := fun vs H Q _ => ∃ (a : Addr) (y : V), vs = [.ref a, y] ∧ H a = some (exo a C none) ∧ ∀ dx, H dx = none → dx ≠ a → Q .non (upd (upd H dx (exd dx [("word", .str wd)])) a (exo a C (some dx)))
/-- raise C(): the word in the error's own dict -/
theorem mk_err {C : Addr} {wd : Str} {y : V} {σ : L2.St} {H : Hp} {Q : XK} (h : ∀ d H', Ex H H' → H d = none → H' d = some (.xd [("word", .str wd)]) → Q (.ref C) (some d) H') : tMkO C (spErr C wd) [y] tNil σ H Q := by
  refine ⟨Nat.zero_le _, fun a na => ⟨a, y, rfl, upd_same, fun dx nd ne => ⟨rfl, dx, [("word", .str wd)], upd_same, ?_, ?_, ?_⟩⟩⟩
  · rw [upd_ne ne, upd_same]
  · rw [upd_ne ne] at nd
    exact nd
  · have nd' : H dx = none := by
      rw [upd_ne ne] at nd
      exact nd
    refine h dx _ (fun b o e => ?_) nd' upd_same
    have nb : b ≠ dx := ne_of_none e nd'
    have na' : b ≠ a := ne_of_none e na
    rw [upd_ne nb, del_ne na', upd_ne na', upd_ne nb, upd_ne na']
    exact e
end Hs
namespace Hs
open PySem PySem.Spec PyProof.Rows L2 Evl
/-- an own error class x at C with the word wd alone, as it stands -/
structure ErrF (P : Program) (w : World) (K : PySem.W.Frag) (mg : Str → Option Value) (base : Heap) (k : Nat) (x : Str) (C : Addr) (wd : Str) : Prop where
  ox : OexC K C
  gx : mg x = some (.ref C)
  ini : ∃ (fI : Addr) (fd : FuncData) (ps : List Str) (y : V) (d : Value), PySem.W.findIn K (.ref C) "__init__" = some (some (.ref fI)) ∧ PySem.W.typeIn K (.ref fI) = some (.type "function") ∧ FnOk P w K mg base CX0 k fI fd ps (spErr C wd) ∧ RelV y d ∧ Binds K fd ps [d]
theorem pmk_err {X : Cx} {k j : Nat} {x : Str} {C : Addr} {wd : Str} {p pos : Pos} (Er : ErrF X.prog X.w X.K X.mg X.base k x C wd) (hr : Room j X.A) (hk : k + 1 ≤ j) (hg : Gl X x) (hdb : (x == ("__debug__" : Str)) = false := by decide) :
    PMk X (.Call (.Name x p) [] [] pos) (fun _ H Q => ∀ d H', Ex H H' → H d = none → H' d = some (.xd [("word", .str wd)]) → Q (.ref C) (some d) H') := by
  obtain ⟨fI, fd, ps, y, d, h1, h2, h3, h4, h5⟩ := Er.ini
  intro pins s σ H Q I h
  exact pmk_oex0 Er.ox h1 h2 h3 (hr.mono hk) h5 (.cons h4 .nil) (fun _ _ _ _ _ _ _ z => z.elim) hg Er.gx hdb pins s σ H Q I (mk_err h)
/-- the def st of a class's body, closed over __class__ at cc, its code object at c -/
def InitAt (K : PySem.W.Frag) (qual : Str) (st : Stmt) (f c cc : Addr) (dvs : List V) (fd : FuncData) : Prop :=
  ∃ (oc : Value) (od : Option Addr) (dV kV doc pm : Value) (an : Option Addr) (ct : Value) (osl : Array (Option Value)), fd = PySem.W.fnX "__init__" qual (defArgs st) (defBody st) (defScope st) [("__class__", cc)] dV kV doc pm an (.ref c) ct ∧
    K.lookup f = some ⟨oc, od, .func fd, osl⟩ ∧ PySem.W.codeIn K (.ref c) qual = true ∧ DflV K dV dvs
/-- __init__(self, why=..): super().__init__(why); self.word = '..' -/
theorem err_ok {P : Program} {w : World} {K : PySem.W.Frag} {mg : Str → Option Value} {base : Heap} {C f c cc : Addr} {fd : FuncData} {qual wd : Str} {st : Stmt} {y : V} {p0 p1 p2 p3 p4 pos0 p5 p6 p7 p8 : Pos} {kd : Nat} {ar : Arg} (T : SupC P K mg C c cc) (I0 : InitAt K qual st f c cc [y] fd)
    (hno : PySem.W.findIn K (.ref C) "word" = some none)
    (hbd : defBody st = [.Expr (.Call (.Attribute (.Call (.Name "super" p0) [] [] p1) "__init__" p2) [.Name "why" p4] [] p3) pos0, .Assign [.Attribute (.Name "self" p5) "word" p6] (.Constant (.str wd) kd p7) p8])
    (S : NdefX.NScope ["self", "why", "__class__"] ["self", "why"] ["__class__"] (defScope st)) (hks : (defScope st).names.lookup ("super" : Str) = some .globalImplicit)
    (hp : ((defArgs st).posonlyargs ++ (defArgs st).args).head? = some ar) (har : ar.arg = "self") (hl0 : (defScope st).names.lookup ("self" : Str) = some .local) (hl1 : (defScope st).names.lookup ("why" : Str) = some .local) {pl : Addr → Sem Bool}
    (hi : ∀ L : Addr, interactive (NdefX.envF ⟨"__init__", qual, defArgs st, [], defScope st, [("__class__", cc)], c⟩ f L) = false)
    (hsw : ∀ L : Addr, swapsWith (.Call (.Attribute (.Call (.Name "super" p0) [] [] p1) "__init__" p2) [.Name "why" p4] [] p3) none pos0.line (NdefX.envF ⟨"__init__", qual, defArgs st, [], defScope st, [("__class__", cc)], c⟩ f L) = pure false)
    (hs2 : ∀ L : Addr, swapsWith (.Constant (.str wd) kd p7) (some (.Attribute (.Name "self" p5) "word" p6)) p8.line (NdefX.envF ⟨"__init__", qual, defArgs st, [], defScope st, [("__class__", cc)], c⟩ f L) = pure false)
    (he : ∀ L : Addr, eval (.Call (.Attribute (.Call (.Name "super" p0) [] [] p1) "__init__" p2) [.Name "why" p4] [] p3) (NdefX.envF ⟨"__init__", qual, defArgs st, [], defScope st, [("__class__", cc)], c⟩ f L) = (do
      let ov ← attributeBase (.Call (.Name "super" p0) [] [] p1) "__init__" (NdefX.envF ⟨"__init__", qual, defArgs st, [], defScope st, [("__class__", cc)], c⟩ f L) (eval (.Call (.Name "super" p0) [] [] p1) (NdefX.envF ⟨"__init__", qual, defArgs st, [], defScope st, [("__class__", cc)], c⟩ f L))
      standAt p2.atName
      let (ff, first) ← holding [ov] (getMethod ov "__init__" (pl L))
      callWith p3 ff first (backTo p3 (starEach [.Name "why" p4] (NdefX.envF ⟨"__init__", qual, defArgs st, [], defScope st, [("__class__", cc)], c⟩ f L))) []))
    (hst : ∀ env : Env, starEach [.Name "why" p4] env = [(false, eval (.Name "why" p4) env)]) :
    FnOk P w K mg base CX0 1 f fd ["self", "why"] (spErr C wd) := by
  obtain ⟨oc, od, dV, kV, doc, pm, an, ct, osl, rfl, lk, hcd, _⟩ := I0
  rw [hbd] at lk ⊢
  refine sup_ok (k := 0) (N := ["self", "why", "__class__"]) T lk hcd S hks hp (by rw [har] <;> rfl) (by rw [har]; exact hl0) (fun vs H Q E h => ?_) (fun A outer s H vs Q E hr h => ?_) hst hi hsw he
  · obtain ⟨a, y, rfl, _⟩ := h
    rfl
  · obtain ⟨a, y, rfl, ha, k⟩ := h
    refine ⟨a, tCons (tVar 1) tNil, tOst K "word" (tVar 0) (tC (.str wd)), rfl, ha, pa_cons (pv 1 rfl (.inl hl1)) pa_nil (hst _), pss_one (ps_ost (pv 0 rfl (.inl hl0)) pe_str (hs2 _)), ?_⟩
    exact ⟨y, rfl, Nat.succ_le_succ (Nat.zero_le _), ha, .ref a, rfl, a, C, rfl, T.ox, hno, .inl ⟨ha, fun dx n ne => k dx n ne⟩⟩
end Hs
namespace Hs
open PySem PySem.Spec PyProof.Rows L2 Evl
/-- an own def that may raise, by its promise; dvs: the defaults that fill up -/
structure OwnX (P : Program) (w : World) (K : PySem.W.Frag) (mg : Str → Option Value) (base : Heap) (k : Nat) (x : Str) (ps : List Str) (dvs : List V) (sp : Sp) : Prop where
  ex : ∃ (f : Addr) (fd : FuncData) (ds : List Value), FnOk P w K mg base (L2.CX P w) k f fd ps sp ∧ mg x = some (.ref f) ∧ PySem.W.keepIn K (.ref f) = true ∧ Vals dvs ds ∧ Binds K fd ps ds
/-- .. where it raises nothing -/
theorem pe_ownX {X : Cx} {k j : Nat} {x : Str} {ps : List Str} {dvs : List V} {sp : Sp} {e : Expr} {es : List Expr} {t : TA} {p pos : Pos} (O : OwnX X.prog X.w X.K X.mg X.base k x ps dvs sp) (hr : Room j X.A) (hk : k ≤ j) (hg : Gl X x) (ha : PA X (e :: es) t)
    (hdb : (x == ("__debug__" : Str)) = false := by decide) (he : starEach (e :: es) X.env = (false, eval e X.env) :: starEach es X.env := by rfl) (hpl : (backTo pos (starEach es X.env)).any (·.1) = false := by rfl) :
    PE X (.Call (.Name x p) (e :: es) [] pos) (tCall sp dvs E0 t) := by
  obtain ⟨f, fd, ds, F, m, kp, d, b⟩ := O.ex
  exact pe_call F (hr.mono hk) hg m kp b d passL ha hdb he hpl
/-- .. where what it raises is taken -/
theorem pe_ownT {X : Cx} {k j : Nat} {x : Str} {ps : List Str} {dvs : List V} {sp : Sp} {e : Expr} {es : List Expr} {t : TA} {p pos : Pos} {Ex : XK} (O : OwnX X.prog X.w X.K X.mg X.base k x ps dvs sp) (hr : Room j X.A) (hk : k ≤ j) (hg : Gl X x) (hx : Passes (L2.CX X.prog X.w) X Ex) (ha : PA X (e :: es) t)
    (hdb : (x == ("__debug__" : Str)) = false := by decide) (he : starEach (e :: es) X.env = (false, eval e X.env) :: starEach es X.env := by rfl) (hpl : (backTo pos (starEach es X.env)).any (·.1) = false := by rfl) :
    PE X (.Call (.Name x p) (e :: es) [] pos) (tCall sp dvs Ex t) := by
  obtain ⟨f, fd, ds, F, m, kp, d, b⟩ := O.ex
  exact pe_call F (hr.mono hk) hg m kp b d hx ha hdb he hpl
def spFrac (C : Addr) : Sp := fun vs H Q E => ∃ a b : Int, vs = [.int a, .int b] ∧ a.natAbs < 2 ^ 900 ∧ b.natAbs < 2 ^ 900 ∧ (b = 0 → ∀ d H', Ex H H' → H d = none → H' d = some (.xd [("word", .str "nought")]) → E (.ref C) (some d) H') ∧ (b ≠ 0 → RetU (prV (low a b)) H Q)
section
variable {P : Program} {w : World} {K : PySem.W.Frag} {mg : Str → Option Value} {base : Heap} {f C : Addr} {fd : FuncData}
abbrev sFrac : Stmt := top 12
theorem scFrac : FnScope ["top", "bottom", "part"] ["top", "bottom"] (defScope sFrac) := ⟨rfl, rfl, rfl, by decide +kernel, rfl, by decide +kernel, by decide +kernel⟩
theorem ok_frac (F : FunD K "fraction" "fraction" (defArgs sFrac) (defBody sFrac) (defScope sFrac) [.int 1] [] f fd) (O_common_part : Own P w K mg base 1 "common_part" ["one", "other"] spGcd) (Er_Nought : ErrF P w K mg base 1 "Nought" C "nought") : FnOk P w K mg base (L2.CX P w) 3 f fd ["top", "bottom"] (spFrac C) := by
  have nd := scFrac.nd
  refine F.ok scFrac (fun vs H Q E h => ?_) (fun cdv A outer s H vs Q E hr h => ⟨_, (pss_cons (ps_if (pt_cmpR op_eq (pv 1) pe_int (nomark _)) (pss_one (ps_raise rfl (takes_of rfl rfl rfl rfl) (Hs.pmk_err Er_Nought hr (by decide) (by rfl)))) pss_nil)
  (pss_cons (ps_set (i := 2) nd rfl (.inl rfl) (Hs.pe_own O_common_part hr (by first | decide | omega) (by rfl) (pa_cons (pv 0) (pa_cons (pv 1) pa_nil))))
  (Evl.pss_cut (ps_if (pt_cmpR op_lt (pv 1) pe_int (nomark _)) (pss_one (ps_set (i := 2) nd rfl (.inl rfl) (pe_un un_neg (pv 2)))) pss_nil)
  (pss_one (ps_ret (pe_tup (pa_cons (pe_op Hs.op_fdivG (pv 0) (pv 2)) (pa_cons (pe_op Hs.op_fdivG (pv 1) (pv 2)) pa_nil)))))))), ?_⟩)
  · obtain ⟨a, b, rfl, _⟩ := h
    rfl
  · obtain ⟨a, b, rfl, ha9, hb9, kE, k⟩ := h
    refine q_when (et_test (ev_op (ev_var rfl) ev_c (rv_eq rfl))) (fun ht H1 e1 => ?_) (fun ht H1 e1 => ?_)
    · have h0 : b = 0 := by
        have := of_decide_eq_true ht
        injection this
      exact fun d H' e n hd => kE h0 d H' (e1.trans e) (fresh_back e1 n) hd
    · have hb : b ≠ 0 := fun z => (of_decide_eq_false ht) (by rw [z])
      refine q_asg (ev_call (ea_cons (ev_var rfl) (ea_cons (ev_var rfl) ea_nil)) fun H1 e1 Q' q E' => ⟨a, b, rfl, q⟩) fun H2 e2 => ?_
      refine q_cut (M := fun σ' H' => Ex H H' ∧ σ' = [some (.int a), some (.int b), some (.int (sg a b))]) ?_ ?_
      · refine s_when (et_test (ev_op (ev_var rfl) ev_c rv_I0)) (fun ht H3 e3 => ?_) (fun ht H3 e3 => ?_)
        · refine s_asg (ev_un (ev_var rfl) ru_neg) fun H4 e4 => ⟨((e1.trans e2).trans e3).trans e4, ?_⟩
          have e : -(Int.gcd a b : Int) = sg a b := (if_pos (of_decide_eq_true ht)).symm
          rw [← e]
          rfl
        · refine ⟨(e1.trans e2).trans e3, ?_⟩
          have e : (Int.gcd a b : Int) = sg a b := (if_neg (of_decide_eq_false ht)).symm
          rw [← e]
          rfl
      · rintro σ' H2 ⟨e2, rfl⟩
        have hs := sg_ne (a := a) hb
        have hl := sg_lt (a := a) hb hb9
        exact s_retU (eu_tup (ea_cons (ev_op (ev_var rfl) (ev_var rfl) (rv_I (divG hs hl (by decide) (by decide)))) (ea_cons (ev_op (ev_var rfl) (ev_var rfl) (rv_I (divG hs hl (by decide) (by decide)))) ea_nil)) (by simp)) fun p H3 hp e3 h3 => k hb p H3 (fresh_back e2 hp) (e2.trans e3) h3
end
end Hs
namespace Hs
open PySem PySem.Spec PyProof.Rows L2 Evl
theorem s_retC {σ : L2.St} {H : Hp} {D : Ends} {sp : Sp} {dvs vs : List V} {E : XK} {ta : TA} (h : EvA ta σ H vs) (k : ∀ H1, Ex H H1 → sp (vs ++ dvs) H1 D.rt E) : tRet (tCall sp dvs E ta) D σ H := h H (Ex.refl H) _ fun H1 e => k H1 e
theorem sm_add {x y : Int} {n : Nat} (hx : x.natAbs < 2 ^ n) (hy : y.natAbs < 2 ^ n) : (x + y).natAbs < 2 ^ (n + 1) := by
  have h := Int.natAbs_add_le x y
  rw [Nat.pow_succ]
  omega
theorem sm_sub {x y : Int} {n : Nat} (hx : x.natAbs < 2 ^ n) (hy : y.natAbs < 2 ^ n) : (x - y).natAbs < 2 ^ (n + 1) := by
  rw [Int.sub_eq_add_neg]
  exact sm_add hx (by rw [Int.natAbs_neg]; exact hy)
theorem sm_mono {x : Int} {n m : Nat} (hx : x.natAbs < 2 ^ n) (h : n ≤ m) : x.natAbs < 2 ^ m := Nat.lt_of_lt_of_le hx (Nat.pow_le_pow_right (by decide) h)
theorem Fr2.mono {K : PySem.W.Frag} {H : Hp} {p : Addr} {x : Int × Int} {n m : Nat} (h : Fr2 K H p x n) (hm : n ≤ m) : Fr2 K H p x m := ⟨h.1, h.2.1, sm_mono h.2.2.1 hm, sm_mono h.2.2.2 hm⟩
def fPlus (x y : Int × Int) : Int × Int := low (x.1 * y.2 + y.1 * x.2) (x.2 * y.2)
def fLess (x y : Int × Int) : Int × Int := low (x.1 * y.2 - y.1 * x.2) (x.2 * y.2)
def fTimes (x y : Int × Int) : Int × Int := low (x.1 * y.1) (x.2 * y.2)
def fMid (x y : Int × Int) : Int × Int := low (x.1 * y.2 + y.1 * x.2) (2 * (x.2 * y.2))
def spBin (K : PySem.W.Frag) (n : Nat) (g : Int × Int → Int × Int → Int × Int) : Sp := fun vs H Q _ => ∃ (p q : Addr) (x y : Int × Int), vs = [.ref p, .ref q] ∧ Fr2 K H p x n ∧ Fr2 K H q y n ∧ RetU (prV (g x y)) H Q
section
variable {P : Program} {w : World} {K : PySem.W.Frag} {mg : Str → Option Value} {base : Heap} {f C : Addr} {fd : FuncData}
abbrev sPlus : Stmt := top 13
theorem scPlus : FnScope ["one", "other"] ["one", "other"] (defScope sPlus) := ⟨rfl, rfl, rfl, by decide +kernel, rfl, by decide +kernel, by decide +kernel⟩
theorem bot_ne {x y : Int × Int} (h1 : 0 < x.2) (h2 : 0 < y.2) : x.2 * y.2 ≠ 0 := Int.ne_of_gt (Int.mul_pos h1 h2)
theorem ok_plus (F : FnP K "plus" sPlus f fd) (O_fraction : OwnX P w K mg base 3 "fraction" ["top", "bottom"] [] (spFrac C)) : FnOk P w K mg base CX0 4 f fd ["one", "other"] (spBin K 300 fPlus) := by
  have nd := scPlus.nd
  refine F.ok scPlus (fun vs H Q E h => ?_) (fun cdv A outer s H vs Q E hr h => ⟨_, PSs.nox (pss_one (ps_ret (Hs.pe_ownX O_fraction hr (by first | decide | omega) (by rfl) (pa_cons (pe_op op_add (pe_op op_mulW (pe_ix (r := rIxT K) ix_tup (pv 0) pe_int (fun _ _ => rfl)) (pe_ix (r := rIxT K) ix_tup (pv 1) pe_int (fun _ _ => rfl))) (pe_op op_mulW (pe_ix (r := rIxT K) ix_tup (pv 1) pe_int (fun _ _ => rfl)) (pe_ix (r := rIxT K) ix_tup (pv 0) pe_int (fun _ _ => rfl)))) (pa_cons (pe_op op_mulW (pe_ix (r := rIxT K) ix_tup (pv 0) pe_int (fun _ _ => rfl)) (pe_ix (r := rIxT K) ix_tup (pv 1) pe_int (fun _ _ => rfl))) pa_nil))))), ?_⟩)
  · obtain ⟨p, q, x, y, rfl, _⟩ := h
    rfl
  · obtain ⟨p, q, x, y, rfl, hx, hy, k⟩ := h
    have m1 := wide_lt hx.2.2.1 hy.2.2.2
    have m2 := wide_lt hy.2.2.1 hx.2.2.2
    have m3 := wide_lt hx.2.2.2 hy.2.2.2
    refine s_retC (ea_cons (ev_op (ev_op (ev_f1 rfl hx) (ev_f2 rfl hy) (rv_I (mul300 hx.2.2.1 hy.2.2.2))) (ev_op (ev_f1 rfl hy) (ev_f2 rfl hx) (rv_I (mul300 hy.2.2.1 hx.2.2.2))) rv_I0) (ea_cons (ev_op (ev_f2 rfl hx) (ev_f2 rfl hy) (rv_I (mul300 hx.2.2.2 hy.2.2.2))) ea_nil)) fun H1 e1 => ?_
    exact ⟨_, _, rfl, sm_mono (sm_add m1 m2) (by decide), sm_mono m3 (by decide), fun z => absurd z (bot_ne hx.2.1 hy.2.1), fun _ r H2 hr e2 h2 => k r H2 (fresh_back e1 hr) (e1.trans e2) h2⟩
abbrev sLess : Stmt := top 14
theorem scLess : FnScope ["one", "other"] ["one", "other"] (defScope sLess) := ⟨rfl, rfl, rfl, by decide +kernel, rfl, by decide +kernel, by decide +kernel⟩
theorem ok_less (F : FnP K "less" sLess f fd) (O_fraction : OwnX P w K mg base 3 "fraction" ["top", "bottom"] [] (spFrac C)) : FnOk P w K mg base CX0 4 f fd ["one", "other"] (spBin K 300 fLess) := by
  have nd := scLess.nd
  refine F.ok scLess (fun vs H Q E h => ?_) (fun cdv A outer s H vs Q E hr h => ⟨_, PSs.nox (pss_one (ps_ret (Hs.pe_ownX O_fraction hr (by first | decide | omega) (by rfl) (pa_cons (pe_op op_sub (pe_op op_mulW (pe_ix (r := rIxT K) ix_tup (pv 0) pe_int (fun _ _ => rfl)) (pe_ix (r := rIxT K) ix_tup (pv 1) pe_int (fun _ _ => rfl))) (pe_op op_mulW (pe_ix (r := rIxT K) ix_tup (pv 1) pe_int (fun _ _ => rfl)) (pe_ix (r := rIxT K) ix_tup (pv 0) pe_int (fun _ _ => rfl)))) (pa_cons (pe_op op_mulW (pe_ix (r := rIxT K) ix_tup (pv 0) pe_int (fun _ _ => rfl)) (pe_ix (r := rIxT K) ix_tup (pv 1) pe_int (fun _ _ => rfl))) pa_nil))))), ?_⟩)
  · obtain ⟨p, q, x, y, rfl, _⟩ := h
    rfl
  · obtain ⟨p, q, x, y, rfl, hx, hy, k⟩ := h
    have m1 := wide_lt hx.2.2.1 hy.2.2.2
    have m2 := wide_lt hy.2.2.1 hx.2.2.2
    have m3 := wide_lt hx.2.2.2 hy.2.2.2
    refine s_retC (ea_cons (ev_op (ev_op (ev_f1 rfl hx) (ev_f2 rfl hy) (rv_I (mul300 hx.2.2.1 hy.2.2.2))) (ev_op (ev_f1 rfl hy) (ev_f2 rfl hx) (rv_I (mul300 hy.2.2.1 hx.2.2.2))) rv_I0) (ea_cons (ev_op (ev_f2 rfl hx) (ev_f2 rfl hy) (rv_I (mul300 hx.2.2.2 hy.2.2.2))) ea_nil)) fun H1 e1 => ?_
    exact ⟨_, _, rfl, sm_mono (sm_sub m1 m2) (by decide), sm_mono m3 (by decide), fun z => absurd z (bot_ne hx.2.1 hy.2.1), fun _ r H2 hr e2 h2 => k r H2 (fresh_back e1 hr) (e1.trans e2) h2⟩
abbrev sTimes : Stmt := top 15
theorem scTimes : FnScope ["one", "other"] ["one", "other"] (defScope sTimes) := ⟨rfl, rfl, rfl, by decide +kernel, rfl, by decide +kernel, by decide +kernel⟩
theorem ok_times (F : FnP K "times" sTimes f fd) (O_fraction : OwnX P w K mg base 3 "fraction" ["top", "bottom"] [] (spFrac C)) : FnOk P w K mg base CX0 4 f fd ["one", "other"] (spBin K 300 fTimes) := by
  have nd := scTimes.nd
  refine F.ok scTimes (fun vs H Q E h => ?_) (fun cdv A outer s H vs Q E hr h => ⟨_, PSs.nox (pss_one (ps_ret (Hs.pe_ownX O_fraction hr (by first | decide | omega) (by rfl) (pa_cons (pe_op op_mulW (pe_ix (r := rIxT K) ix_tup (pv 0) pe_int (fun _ _ => rfl)) (pe_ix (r := rIxT K) ix_tup (pv 1) pe_int (fun _ _ => rfl))) (pa_cons (pe_op op_mulW (pe_ix (r := rIxT K) ix_tup (pv 0) pe_int (fun _ _ => rfl)) (pe_ix (r := rIxT K) ix_tup (pv 1) pe_int (fun _ _ => rfl))) pa_nil))))), ?_⟩)
  · obtain ⟨p, q, x, y, rfl, _⟩ := h
    rfl
  · obtain ⟨p, q, x, y, rfl, hx, hy, k⟩ := h
    have m1 := wide_lt hx.2.2.1 hy.2.2.1
    have m3 := wide_lt hx.2.2.2 hy.2.2.2
    refine s_retC (ea_cons (ev_op (ev_f1 rfl hx) (ev_f1 rfl hy) (rv_I (mul300 hx.2.2.1 hy.2.2.1))) (ea_cons (ev_op (ev_f2 rfl hx) (ev_f2 rfl hy) (rv_I (mul300 hx.2.2.2 hy.2.2.2))) ea_nil)) fun H1 e1 => ?_
    exact ⟨_, _, rfl, sm_mono m1 (by decide), sm_mono m3 (by decide), fun z => absurd z (bot_ne hx.2.1 hy.2.1), fun _ r H2 hr e2 h2 => k r H2 (fresh_back e1 hr) (e1.trans e2) h2⟩
abbrev sMiddle : Stmt := top 16
theorem scMiddle : FnScope ["one", "other"] ["one", "other"] (defScope sMiddle) := ⟨rfl, rfl, rfl, by decide +kernel, rfl, by decide +kernel, by decide +kernel⟩
theorem ok_middle (F : FnP K "middle" sMiddle f fd) (O_plus : Own P w K mg base 4 "plus" ["one", "other"] (spBin K 300 fPlus)) (O_times : Own P w K mg base 4 "times" ["one", "other"] (spBin K 300 fTimes)) : FnOk P w K mg base CX0 5 f fd ["one", "other"] (spBin K 140 fMid) := by
  have nd := scMiddle.nd
  refine F.ok scMiddle (fun vs H Q E h => ?_) (fun cdv A outer s H vs Q E hr h => ⟨_, PSs.nox (pss_one (ps_ret (Hs.pe_own O_times hr (by first | decide | omega) (by rfl) (pa_cons (Hs.pe_own O_plus hr (by first | decide | omega) (by rfl) (pa_cons (pv 0) (pa_cons (pv 1) pa_nil))) (pa_cons (pe_tup (pa_cons pe_int (pa_cons pe_int pa_nil))) pa_nil))))), ?_⟩)
  · obtain ⟨p, q, x, y, rfl, _⟩ := h
    rfl
  · obtain ⟨p, q, x, y, rfl, hx, hy, k⟩ := h
    have hb := bot_ne hx.2.1 hy.2.1
    refine ⟨_, rfl, _, rfl, p, q, x, y, rfl, hx.mono (by decide), hy.mono (by decide), fun r H1 hr e1 h1 => ⟨sz_of (by simp), fun u hu => ?_⟩⟩
    have m1 := sm_add (wide_lt hx.2.2.1 hy.2.2.2) (wide_lt hy.2.2.1 hx.2.2.2)
    have m3 := wide_lt hx.2.2.2 hy.2.2.2
    refine ⟨r, u, fPlus x y, (1, 2), rfl, ⟨st_of ((Ex.new hu) _ _ h1), low_pos hb, Nat.lt_of_le_of_lt (low_b1 hb) (Nat.lt_of_lt_of_le m1 (Nat.pow_le_pow_right (by decide) (by decide))), Nat.lt_of_le_of_lt (low_b2 hb) (Nat.lt_of_lt_of_le m3 (Nat.pow_le_pow_right (by decide) (by decide)))⟩,
      ⟨st_of upd_same, by decide, by decide, by decide⟩, fun t H2 ht e2 h2 => ?_⟩
    have e : fTimes (fPlus x y) (1, 2) = fMid x y := low_half hb
    rw [e] at h2
    have e3 : Ex H (upd H1 u (.tup [.int 1, .int 2])) := e1.trans (Ex.new hu)
    exact k t H2 (fresh_back e3 ht) (e3.trans e2) h2
end
end Hs
namespace Hs
open PySem PySem.Spec PyProof.Rows L2 Evl
/-! ### try with several clauses, each with a name -/
theorem flyZ_kept {base : Heap} {l : List Env} {e : Addr} {Z : Obj → Prop} {h h' : Heap} (k : ∀ b o, h.get? b = some o → h'.get? b = some o) (f : HandSPX.FlyingZ base l e Z h) : HandSPX.FlyingZ base l e Z h' := by
  obtain ⟨f1, f2, f3, oe, vs, T, oT, ts, h1, h2, h3, h4, h5, h6, h7, h8, h9⟩ := f
  exact ⟨fun b o z => k b o (f1 b o z), f2, f3.of_keeps fun b o z _ => ⟨o, k b o z, rfl⟩, oe, vs, T, oT, ts, k _ _ h1, h2, h3, h4, h5, h6, k _ _ h7, h8, h9⟩
/-- the classes that a clause names: r tells of a class whether it is one of theirs -/
def TestOk (X : Cx) (t : Expr) (r : Value → Option Bool) : Prop :=
  ∀ (a : Addr) (oe : Obj) (pn : List (Addr × Obj)) (σ : L2.St) (H : Hp) (s : Shared), Inv (X.suite a ((a, oe) :: pn)) [] σ H s → ∀ (cls : Value) (b : Bool), r cls = some b → PySem.W.Looks (model X.prog X.w) s.heap (typeOf (.ref a)) cls →
    ∀ (Q : Bool → Shared → Prop) (E : Value → Shared → Prop), (∀ h', (∀ b o, s.heap.get? b = some o → h'.get? b = some o) → Q b { s with heap := h' }) →
      wpAny (model X.prog X.w) (X.A.mark (some (.ref a))) (eval t X.env) (fun c s₁ => wpAny (model X.prog X.w) (X.A.mark (some (.ref a))) (excMatches (.ref a) c) Q E s₁) E s
theorem ld_cls {X : Cx} {x : Str} {c : Value} {np : Pos} (hc : Names X x c) {a : Addr} {oe : Obj} {pn : List (Addr × Obj)} {σ : L2.St} {H : Hp} {s : Shared} (I : Inv (X.suite a ((a, oe) :: pn)) [] σ H s) {Q : Value → Shared → Prop} {E : Value → Shared → Prop} (q : Q c s) :
    wpAny (model X.prog X.w) (X.A.mark (some (.ref a))) (eval (.Name x np) X.env) Q E s := by
  obtain ⟨hg, hdbg, hm | ⟨hm, hv, hnn⟩⟩ := hc
  · exact ld_glob (X := X.suite a ((a, oe) :: pn)) I hg hm q hdbg
  · exact ld_blt (X := X.suite a ((a, oe) :: pn)) I hg hm hv q hnn hdbg
theorem test_one {X : Cx} {x : Str} {c : Value} {np : Pos} (hc : Names X x c) : TestOk X (.Name x np) (fun cls => PySem.W.exmOne X.K cls c) := by
  intro a oe pn σ H s I cls b hb LT Q E q
  exact ld_cls hc I ((PySem.W.exm_one (M := model X.prog X.w) I.kIn LT hb).here (q s.heap fun _ _ z => z))
theorem test_two {X : Cx} {x y : Str} {c1 c2 : Value} {np nq pos : Pos} {k : Nat} (hc : Names X x c1) (hd : Names X y c2)
    (hs1 : starEach [.Name x np, .Name y nq] X.env = [(false, eval (.Name x np) X.env), (false, eval (.Name y nq) X.env)] := by rfl) : TestOk X (.Tuple [.Name x np, .Name y nq] k pos) (fun cls => PySem.W.exmAny X.K cls [c1, c2]) := by
  intro a oe pn σ H s I cls b hb LT Q E q
  refine wpAny_Tuple_spliced ?_
  rw [hs1]
  show wpAny _ _ (spliced ((false, eval (.Name x np) X.env) :: (false, eval (.Name y nq) X.env) :: backTo pos [])) _ _ s
  refine Calls.spliced_cons (ld_cls hc I (Calls.spliced_cons (ld_cls hd I (Calls.spliced_nil ?_))))
  refine ⟨by show 2 ≤ sizeLine; decide, ?_⟩
  have kp : ∀ b o, s.heap.get? b = some o → (s.heap.push { cls := .type "tuple", data := .seq [c1, c2].toArray }).get? b = some o := fun b o z => Heap.get?_push_of_some _ z
  exact (PySem.W.exm_tup2 (M := model X.prog X.w) (I.kIn.keeps kp) (LT.keeps kp) (Heap.get?_push_size _ rfl) hb).here (q _ kp)
theorem test_three {X : Cx} {x y z : Str} {c1 c2 c3 : Value} {np nq nr pos : Pos} {k : Nat} (hc : Names X x c1) (hd : Names X y c2) (he : Names X z c3)
    (hs1 : starEach [.Name x np, .Name y nq, .Name z nr] X.env = [(false, eval (.Name x np) X.env), (false, eval (.Name y nq) X.env), (false, eval (.Name z nr) X.env)] := by rfl) : TestOk X (.Tuple [.Name x np, .Name y nq, .Name z nr] k pos) (fun cls => PySem.W.exmAny X.K cls [c1, c2, c3]) := by
  intro a oe pn σ H s I cls b hb LT Q E q
  refine wpAny_Tuple_spliced ?_
  rw [hs1]
  show wpAny _ _ (spliced ((false, eval (.Name x np) X.env) :: (false, eval (.Name y nq) X.env) :: (false, eval (.Name z nr) X.env) :: backTo pos [])) _ _ s
  refine Calls.spliced_cons (ld_cls hc I (Calls.spliced_cons (ld_cls hd I (Calls.spliced_cons (ld_cls he I (Calls.spliced_nil ?_))))))
  refine ⟨by show 3 ≤ sizeLine; decide, ?_⟩
  have kp : ∀ b o, s.heap.get? b = some o → (s.heap.push { cls := .type "tuple", data := .seq [c1, c2, c3].toArray }).get? b = some o := fun b o z => Heap.get?_push_of_some _ z
  exact (PySem.W.exm_tup3 (M := model X.prog X.w) (I.kIn.keeps kp) (LT.keeps kp) (Heap.get?_push_size _ rfl) hb).here (q _ kp)
end Hs
namespace Hs
open PySem PySem.Spec PyProof.Rows L2 Evl
/-- what the clauses wish of an exception of the body, one after the other; slot i is the clauses' name -/
def wManyA (i m : Nat) (Wout : WX) (D : Ends) : List ((Value → Option Bool) × (Addr → Value → Option Addr → TS)) → WX
  | [] => Wout
  | (r, ts) :: l => fun cls d σ H => ∃ b, r cls = some b ∧ (b = true → σ.length = m → ∀ a, H a = none → ts a cls d { nx := fun σ' H' => D.nx (σ'.set i none) H', rt := D.rt, bk := fun σ' H' => D.bk (σ'.set i none) H', ct := fun σ' H' => D.ct (σ'.set i none) H' } (σ.set i (some (.ref a))) H) ∧
      (b = false → wManyA i m Wout D l cls d σ H)
inductive HdsA (X : Cx) (n : Str) : List ExceptHandler → List ((Value → Option Bool) × (Addr → Value → Option Addr → TS)) → Prop
  | nil : HdsA X n [] []
  | cons {t : Expr} {r : Value → Option Bool} {ts : Addr → Value → Option Addr → TS} {b₀ : Stmt} {suite : List Stmt} {pos' : Pos} {hds : List ExceptHandler} {l : List ((Value → Option Bool) × (Addr → Value → Option Addr → TS))} (hc : TestOk X t r)
      (hsu : ∀ (a : Addr) (oe : Obj) (cls : Value) (d : Option Addr) (pn : List (Addr × Obj)), Zc cls d oe → (∃ vs, oe.data = .fields vs) → PSs (X.suite a ((a, oe) :: pn)) (b₀ :: suite) (ts a cls d)) (rest : HdsA X n hds l) :
      HdsA X n (.ExceptHandler (some t) (some n) (b₀ :: suite) pos' :: hds) ((r, ts) :: l)
theorem ps_try_manyA {X : Cx} {n : Str} {i : Nat} {body : List Stmt} {h₀ : ExceptHandler} {hds : List ExceptHandler} {l : List ((Value → Option Bool) × (Addr → Value → Option Addr → TS))} {pos : Pos} {tb : WX → TS} {Wout : WX}
    (hs : X.stack = X.env :: X.outer) (hf : X.env.frame = some X.env.locals) (hN : X.N.Nodup) (hi : X.N[i]? = some n) (hln : X.env.kindOf n = some .local) (tk : Takes X Wout)
    (hb : ∀ (W : WX) (pn : List (Addr × Obj)) (xe : Value → Shared → Prop), Takes (X.tr pn xe) W → PassesOwn (model X.prog X.w) X.A X.env xe → PSs (X.tr pn xe) body (tb W))
    (hh : HdsA X n (h₀ :: hds) l) : PS X (.Try body (h₀ :: hds) [] [] pos) (fun D σ H => tb (wManyA i X.N.length Wout D l) D σ H) := by
  refine ⟨fun pins s σ H D I h => ?_⟩
  have ok := I.ok
  have hfr : X.A.frames = some (X.env :: X.outer) := by rw [ok.frames, hs]
  have hloc : Loc X.env.scope n := .inl hln
  refine wpAny_Try_except ?_
  refine wpAny_mono ((hb (wManyA i X.N.length Wout D l) (X.pn ++ pins) (fun e s₁ => wpAny (model X.prog X.w) X.A (noteFrame e X.env) (fun _ s₂ => wpAny (model X.prog X.w) X.A (setFlight e none) (fun _ s₃ =>
    wpAny (model X.prog X.w) X.A (handleBy e X.env (h₀ :: hds)) (SP X pins D) X.xe s₃) X.xe s₂) X.xe s₁) (fun u s' xx => ?_) PassesOwn.looking).run [] s σ H D (I.toTry _) h) (fun f s1 hsp => ?_) (fun e s1 he => he)
  · obtain ⟨a, B, sI, pins', σ', H', cls, d, rfl, J', nb, up, sky, na, os, ag, w⟩ := xx
    have J : Inv X pins σ' H' sI := J'.ofTry ok
    have sky' : Sky B (X.env :: X.outer) a (Zc cls d) X.env.locals s'.heap := by rw [← hs]; exact sky
    show wpAny (model X.prog X.w) X.A (noteFrame (.ref a) X.env) _ _ _
    refine Sky.land Zc.steady hfr hf sky' fun h3 fl3 up3 => ?_
    have notFr : ∀ {h : Heap} {o : Obj} {vs : Array Value}, h.FunFrames B (X.env :: X.outer) → h.get? a = some o → o.data = .fields vs → a ∉ frs (X.env :: X.outer) := fun {h o vs} ff e dd hm => by
      obtain ⟨_, o', e', hnf⟩ := ff.mem hm
      rw [e] at e'; cases e'
      exact hnf _ dd
    have go : ∀ {hds' : List ExceptHandler} {l' : List ((Value → Option Bool) × (Addr → Value → Option Addr → TS))}, HdsA X n hds' l' → wManyA i X.N.length Wout D l' cls d σ' H' → ∀ h3, HandSPX.FlyingZ B (X.env :: X.outer) a (Zc cls d) h3 → sI.heap.UpToSlots h3 →
        wpAny (model X.prog X.w) X.A (handleBy (.ref a) X.env hds') (SP X pins D) X.xe { s' with heap := h3 } := by
      intro hds' l' hk
      induction hk with
      | nil =>
        intro w h3 fl3 up3
        refine wpAny_handleBy_nil ?_
        obtain ⟨k1, k2, k3, oe, vs, T, oT, ts', he, hz, hd, h1, hr⟩ := id fl3
        unfold PySem.passOn
        refine wpAny_bind (wpAny_field he hd h1 ?_)
        rw [if_neg (show ¬ ((Value.ref T == Value.none) = true) from by simp)]
        have fin : wpAny (model X.prog X.w) X.A (setFlight (.ref a) X.env.frame) (fun _ s4 => wpAny (model X.prog X.w) X.A (throw (.ref a) : Sem Flow) (SP X pins D) X.xe s4) X.xe { s' with heap := h3 } := by
          rw [hf]
          refine HandSPX.setFlight_upZ fl3 fun h4 hh4 up4 => wpAny_throw (tk _ _ ?_)
          exact ⟨a, B, sI, pins, σ', H', cls, d, rfl, J, nb, up3.trans up4, .inr (.inr (by rw [hs]; exact hh4)), na, os, ag, w⟩
        first
          | exact wpAny_bind (wpAny_pure (wpAny_bind fin))
          | exact wpAny_bind fin
      | @cons t r ts b₀ suite pos' hds2 l2 hc hsu rest ih =>
        intro w h3 fl3 up3
        obtain ⟨b, hb1, hyes, hno⟩ := w
        have J3 : Inv X pins σ' H' { s' with heap := h3 } := J.landed nb fl3.1 up3 os ag
        obtain ⟨oe3, vs3, he3, hz3, hd3⟩ := fl3.there
        have nfr := notFr fl3.2.2.1 he3 hd3
        have nL : a ≠ X.env.locals := fun z => nfr (List.mem_filterMap.mpr ⟨X.env, List.mem_cons_self, by rw [hf, z]⟩)
        have nF : a ∉ X.fs := fun hm => by
          obtain ⟨e, he, q⟩ := List.mem_filterMap.mp hm
          exact nfr (List.mem_filterMap.mpr ⟨e, List.mem_cons_of_mem _ he, q⟩)
        have S3 := J3.suite he3 hd3 na nL nF
        refine wpAny_handleBy_cons (codeAny_handlers_test ?_) (by intro q; cases q)
        have LT : PySem.W.Looks (model X.prog X.w) h3 (typeOf (.ref a)) cls := fun A Q E s k q => wpAny_typeOf_ref (k _ _ he3) (by rw [hz3.1]; exact q)
        refine hc a oe3 (X.pn ++ pins) σ' H' _ S3 cls b hb1 LT _ _ fun h4 kp4 => ?_
        have fl4 := flyZ_kept kp4 fl3
        have up4 : sI.heap.UpToSlots h4 := up3.trans (Heap.UpToSlots.of_keeps kp4)
        cases b with
        | true =>
          refine codeAny_handlers_suite_as ?_
          refine HandSPX.lands_againZ fl4 fun h5 fl5 up5 => ?_
          have J5 : Inv X pins σ' H' { s' with heap := h5 } := J.landed nb fl5.1 (up4.trans up5) os ag
          obtain ⟨oe5, vs5, he5, hz5, hd5⟩ := fl5.there
          have S5 := J5.suite he5 hd5 na nL nF
          refine store_ok (X := X.suite a ((a, oe5) :: (X.pn ++ pins))) (v := .ref a) S5 hN hi hloc rfl (fun s6 S6 => ?_) (.inr hln)
          refine wpAny_mono ((hsu a oe5 cls d (X.pn ++ pins) hz5 ⟨_, hd5⟩).run [] s6 _ H' _ S6 (hyes rfl J.len a na)) (fun f s6 hsp => ?_) (fun _ _ z => False.elim z)
          have end_ : ∀ {σ6 : L2.St} {H6 : Hp} {Q : Shared → Prop}, Inv (X.suite a ((a, oe5) :: (X.pn ++ pins))) [] σ6 H6 s6 → (∀ s7, Inv X pins (σ6.set i none) H6 s7 → Q s7) →
              wpAny (model X.prog X.w) X.A (do bindName X.env n .none; unbindBehindTheSuite X.env n pos') (fun _ s7 => Q s7) X.xe s6 := fun {σ6 H6 Q} S6 hq => gone_ok (S6.unsuite ok) hN hi hln hq
          cases f with
          | next =>
            obtain ⟨σ6, H6, S6, q6⟩ := hsp
            exact end_ S6 fun s7 J7 => ⟨_, _, J7, q6⟩
          | brk =>
            obtain ⟨σ6, H6, S6, q6⟩ := hsp
            exact end_ S6 fun s7 J7 => ⟨_, _, J7, q6⟩
          | cont =>
            obtain ⟨σ6, H6, S6, q6⟩ := hsp
            exact end_ S6 fun s7 J7 => ⟨_, _, J7, q6⟩
          | ret u =>
            obtain ⟨v6, σ6, H6, S6, r6, q6⟩ := hsp
            exact end_ S6 fun s7 J7 => ⟨_, _, _, J7, r6, q6⟩
        | false =>
          show wpAny _ X.A (handleBy (.ref a) X.env hds2) _ _ _
          exact ih (hno rfl) h4 fl4 up4
    exact go hh w h3 fl3 (up.trans up3)
  · cases f with
    | next =>
      obtain ⟨σ', H', J', q⟩ := hsp
      exact wpAny_execs_nil ⟨σ', H', J'.ofTry ok, q⟩
    | brk =>
      obtain ⟨σ', H', J', q⟩ := hsp
      exact ⟨σ', H', J'.ofTry ok, q⟩
    | cont =>
      obtain ⟨σ', H', J', q⟩ := hsp
      exact ⟨σ', H', J'.ofTry ok, q⟩
    | ret u =>
      obtain ⟨v, σ', H', J', r, q⟩ := hsp
      exact ⟨v, σ', H', J'.ofTry ok, r, q⟩
end Hs
namespace Hs
open PySem PySem.Spec PyProof.Rows L2 Evl
/-- e.n in an except suite, whatever own class the error has -/
def tXfA (K : PySem.W.Frag) (a : Addr) (cls : Value) (d : Option Addr) (n : Str) (te : TE) : TE := fun σ H Q => te σ H fun x H1 => x = .ref a ∧ ∃ C : Addr, cls = .ref C ∧ XfC K C ∧ PySem.W.findIn K (.ref C) n = some none ∧
  ∃ (dd : Addr) (fs : List (Str × V)) (v : V), d = some dd ∧ H1 dd = some (.xd fs) ∧ fs.lookup n = some v ∧ Q v H1
theorem pe_xfA {X : Cx} {a : Addr} {oe : Obj} {cls : Value} {d : Option Addr} {pn : List (Addr × Obj)} {e : Expr} {te : TE} {pos : Pos} {n : Str} (hz : Zc cls d oe) (hf : ∃ vs, oe.data = .fields vs) (he : PE (X.suite a ((a, oe) :: pn)) e te)
    (hb : attributeBase e n X.env (eval e X.env) = eval e X.env := by rfl) : PE (X.suite a ((a, oe) :: pn)) (.Attribute e n pos) (tXfA X.K a cls d n te) := by
  refine ⟨fun pins s σ H Q I h => ?_⟩
  refine attr_of hb (thn (he.run pins s σ H _ I h) fun u s1 hh => ?_)
  obtain ⟨x, H1, I1, rx, ex, C, ec, T, hno, dd, fs, v, ed, ea, l, q⟩ := hh
  subst ex
  obtain rfl : u = Value.ref a := rx
  subst ec
  subst ed
  obtain ⟨ha, _⟩ := I1.pin (a, oe) (List.mem_append_left _ List.mem_cons_self)
  obtain ⟨vs, hd⟩ := hf
  have hx : ObjOk X.prog X.w H1 s1.heap dd (.xd fs) := I1.hok dd _ ea
  obtain ⟨mA, hns, hr⟩ := hx
  obtain ⟨od, ho, hl⟩ := lookIn_ns hns
  obtain ⟨u, hu, ru⟩ := RelO.some_of (v := v) (o := mA n) (by rw [← l]; exact hr n)
  have J : PySem.W.InstAt s1.heap a oe C (some od) := ⟨ha, hz.1, by unfold PySem.W.notCls; rw [hd] <;> rfl, by rw [hz.2]; exact ho⟩
  exact HandSPX.exc_get I1.kIn J T.ga T.gg T.exC (PySem.W.findObj_own T.hdC hno rfl (by rw [hl, hu])) (handed_of ru) ⟨v, H1, I1.tok _, ru, q⟩
/-- the classes that the law's own catcher names -/
structure Cats (mg : Str → Option Value) (cN cL cK cB cS cM cC : Addr) : Prop where
  n : mg "NoThing" = some (.ref cN)
  l : mg "NoLook" = some (.ref cL)
  k : mg "Looked" = some (.ref cK)
  b : mg "BadText" = some (.ref cB)
  s : mg "ShadeError" = some (.ref cS)
  m : mg "Missing" = some (.ref cM)
  c : mg "Crowded" = some (.ref cC)
/-- an error class that only the last clause takes, with its word -/
structure Word (K : PySem.W.Frag) (C cN cL cK cB cS cM cC : Addr) : Prop where
  n : PySem.W.exmOne K (.ref C) (.ref cN) = some false
  l : PySem.W.exmAny K (.ref C) [.ref cL, .ref cK] = some false
  b : PySem.W.exmOne K (.ref C) (.ref cB) = some false
  s : PySem.W.exmAny K (.ref C) [.ref cS, .ref cM, .ref cC] = some true
  xf : XfC K C
  no : PySem.W.findIn K (.ref C) "word" = some none
/-- what the catcher makes of what it calls: ('told', v), or the word of an error -/
def TTr (K : PySem.W.Frag) (cN cL cK cB cS cM cC : Addr) : (XK → Hp → VK → Prop) → Hp → VK → Prop := fun tl H Q =>
  tl (fun cls d H' => ∃ (C dd : Addr) (fs : List (Str × V)) (wd : Str), cls = .ref C ∧ d = some dd ∧ Word K C cN cL cK cB cS cM cC ∧ H' dd = some (.xd fs) ∧ fs.lookup ("word" : Str) = some (V.str wd) ∧ ∀ p, H' p = none → Q (.ref p) (upd H' p (.tup [.str wd]))) H
    (fun v H1 => ([V.str "told", v] : List V).length ≤ sizeLine ∧ ∀ p, H1 p = none → Q (.ref p) (upd H1 p (.tup [.str "told", v])))
abbrev sTried : Stmt := top 23
theorem scTried : FnScope ["_law_act", "e"] ["_law_act"] (defScope sTried) := ⟨rfl, rfl, rfl, by decide +kernel, rfl, by decide +kernel, by decide +kernel⟩
theorem tried_gives {X : Cx} {q : Str} {g : Addr} {cdg : Value} {cN cL cK cB cS cM cC : Addr} (ct : Cats X.mg cN cL cK cB cS cM cC) :
    LamX.GivesTo X ["_law_act", "e"] "_law_tried" (defScope sTried) g cdg (defBody sTried) "_law_act" q (TTr X.K cN cL cK cB cS cM cC) := by
  intro f c' s H Q tl act hc h
  have nd := scTried.nd
  refine ⟨_, pss_one (ps_try_manyA (i := 1) (n := "e") (X := (cxOf C8.CX0 X.prog X.w X.K X.mg X.base ["_law_act", "e"] "_law_tried" (defScope sTried) g cdg X.A X.stack s H C8.E0).nox)
      (tb := fun W D σ H => ∃ Ech : XK, (∀ cls d σ' H', Ech cls d H' → W cls d σ' H') ∧ σ[0]? = some (some (.ref f)) ∧ H c' = some (LamX.CodeO c' q) ∧ tl Ech H (fun v H1 => ([V.str "told", v] : List V).length ≤ sizeLine ∧ ∀ p, H1 p = none → D.rt (.ref p) (upd H1 p (.tup [.str "told", v]))))
      rfl rfl nd rfl rfl LamX.takes0 (fun W pn xe tk _ => ?_)
      (.cons (test_one ⟨rfl, by decide, .inl ct.n⟩) (fun a oe cls d pn hz hf => pss_one (ps_ret (pe_tup (pa_cons (pe_xfA hz hf (pv 1)) (pa_cons (pe_xfA hz hf (pv 1)) (pa_cons (pe_xfA hz hf (pv 1)) pa_nil))))))
      (.cons (test_two ⟨rfl, by decide, .inl ct.l⟩ ⟨rfl, by decide, .inl ct.k⟩) (fun a oe cls d pn hz hf => pss_one (ps_ret (pe_tup (pa_cons (pe_xfA hz hf (pv 1)) (pa_cons (pe_xfA hz hf (pv 1)) pa_nil)))))
      (.cons (test_one ⟨rfl, by decide, .inl ct.b⟩) (fun a oe cls d pn hz hf => pss_one (ps_ret (pe_tup (pa_cons (pe_xfA hz hf (pv 1)) (pa_cons (pe_xfA hz hf (pv 1)) pa_nil)))))
      (.cons (test_three ⟨rfl, by decide, .inl ct.s⟩ ⟨rfl, by decide, .inl ct.m⟩ ⟨rfl, by decide, .inl ct.c⟩) (fun a oe cls d pn hz hf => pss_one (ps_ret (pe_tup (pa_cons (pe_xfA hz hf (pv 1)) pa_nil)))) .nil))))), ?_⟩
  · refine ⟨fun pins s' σ H' D I h' => ?_⟩
    obtain ⟨Ech, hW, h1, h2, h3⟩ := h'
    exact (pss_one (ps_ret (pe_tup (pa_cons pe_str (pa_cons (act W pn xe Ech _ _ tk hW) pa_nil))))).run pins s' σ H' D I ⟨h1, h2, h3⟩
  · refine ⟨_, ?_, rfl, hc, h⟩
    rintro cls d σ' H' ⟨C, dd, fs, wd, rfl, rfl, wc, hx, hl, k⟩
    refine ⟨false, wc.n, fun z => Bool.noConfusion z, fun _ => ⟨false, wc.l, fun z => Bool.noConfusion z, fun _ => ⟨false, wc.b, fun z => Bool.noConfusion z, fun _ => ⟨true, wc.s, fun _ hlen a na => ?_, fun z => Bool.noConfusion z⟩⟩⟩⟩
    have h1 : 1 < σ'.length := by
      rw [hlen]
      show 1 < 2
      decide
    exact ⟨.ref a, List.getElem?_set_self h1, rfl, C, rfl, wc.xf, wc.no, dd, fs, _, rfl, hx, hl, sz_of (by simp), fun p hp => k p hp⟩
end Hs
namespace Hs
open PySem PySem.Spec PyProof.Rows L2 Evl
/-! ### the law -/
theorem tabs_but {T : List (Addr × Str)} {H H' : Hp} {b : Addr} {xs : List V} (t : LamX.Tabs T H) (hb : H b = some (.lst xs)) (k : But H H' b) : LamX.Tabs T H' := fun p hp => by
  obtain ⟨ps, h1, h2, h3⟩ := t p hp
  refine ⟨ps, k _ _ h1 (ne_of h1 hb (by intro z; cases z)), h2, fun pos cv hc => ?_⟩
  obtain ⟨c, e1, e2⟩ := h3 pos cv hc
  exact ⟨c, e1, k _ _ e2 (ne_of e2 hb (by intro z; unfold LamX.CodeO at z; cases z))⟩
theorem tabs_upd {T : List (Addr × Str)} {H : Hp} {b : Addr} {xs : List V} {o : HO} (t : LamX.Tabs T H) (hb : H b = some (.lst xs)) : LamX.Tabs T (upd H b o) := tabs_but t hb (But.upd But.refl)
theorem bag_extN {H H' : Hp} {b l : Addr} {ns : List Int} {n : Nat} (B : BagAt H b l ns n) (e : LamX.ExtN H H') : BagAt H' b l ns n := by
  obtain ⟨⟨i, z, s, c, h1, h2, h3, h4, h5⟩, h6, h7⟩ := B
  exact ⟨⟨i, z, s, c, e _ _ h1 (fun _ z => by cases z), h2, h3, h4, h5⟩, e _ _ h6 (fun _ z => by cases z), h7⟩
theorem bag_upd {H : Hp} {b l a : Addr} {ns : List Int} {n : Nat} {o : HO} (B : BagAt H b l ns n) (h1 : b ≠ a) (h2 : l ≠ a) : BagAt (upd H a o) b l ns n := by
  obtain ⟨⟨i, z, s, c, q1, q2, q3, q4, q5⟩, q6, q7⟩ := B
  exact ⟨⟨i, z, s, c, by rw [upd_ne h1]; exact q1, q2, q3, q4, q5⟩, by rw [upd_ne h2]; exact q6, q7⟩
theorem bag_lst {H : Hp} {b l : Addr} {ns : List Int} {n : Nat} (B : BagAt H b l ns n) : ∃ xs, H b = some (.lst xs) := by
  obtain ⟨⟨i, z, s, c, h1, _⟩, _⟩ := B
  exact ⟨_, h1⟩
/-- what the catcher tells of fraction(a, b) -/
def Told (H : Hp) (p : Addr) (a b : Int) : Prop := (b = 0 → H p = some (.tup [.str "nought"])) ∧ (b ≠ 0 → ∃ r, H p = some (.tup [.str "told", .ref r]) ∧ H r = some (.tup (prV (low a b))))
theorem Told.ext {H H' : Hp} {p : Addr} {a b : Int} (t : Told H p a b) (e : Ex H H') : Told H' p a b := ⟨fun z => e _ _ (t.1 z), fun z => by
  obtain ⟨r, h1, h2⟩ := t.2 z
  exact ⟨r, e _ _ h1, e _ _ h2⟩⟩
theorem sm_flat {K : PySem.W.Frag} {H : Hp} {d : Nat} {v : V} (h : flatV v = true) : Sm K H (d + 1) v v := .inl ⟨rfl, h⟩
theorem sm_tup {K : PySem.W.Frag} {H : Hp} {d : Nat} {p q : Addr} {xs ys : List V} (h1 : SqT K H p xs) (h2 : SqT K H q ys) (hl : xs.length = ys.length) (hz : xs.length ≤ 1000) (h : ∀ (i : Nat) (x y : V), xs[i]? = some x → ys[i]? = some y → Sm K H d x y) : Sm K H (d + 1) (.ref p) (.ref q) := .inr ⟨p, q, xs, ys, rfl, rfl, .inr ⟨h1, h2⟩, hl, hz, h⟩
theorem sm_lst {K : PySem.W.Frag} {H : Hp} {d : Nat} {p q : Addr} {xs ys : List V} (h1 : SqL K H p xs) (h2 : SqL K H q ys) (hl : xs.length = ys.length) (hz : xs.length ≤ 1000) (h : ∀ (i : Nat) (x y : V), xs[i]? = some x → ys[i]? = some y → Sm K H d x y) : Sm K H (d + 1) (.ref p) (.ref q) := .inr ⟨p, q, xs, ys, rfl, rfl, .inl ⟨h1, h2⟩, hl, hz, h⟩
/-- two pairs alike -/
theorem sm_pr {K : PySem.W.Frag} {H : Hp} {d : Nat} {p q : Addr} {x : Int × Int} (h1 : SqT K H p (prV x)) (h2 : SqT K H q (prV x)) : Sm K H (d + 2) (.ref p) (.ref q) := sm_tup h1 h2 rfl (by show 2 ≤ 1000; decide) fun i a b ha hb => by
  have e : a = b := Option.some.inj (ha.symm.trans hb)
  subst e
  refine sm_flat ?_
  match i, ha with
  | 0, ha => cases ha; rfl
  | 1, ha => cases ha; rfl
  | i + 2, ha => cases ha
theorem sm_told {K : PySem.W.Frag} {H : Hp} {p q : Addr} {a b : Int} (h1 : Told H p a b) (h2 : Told H q a b) : Sm K H 3 (.ref p) (.ref q) := by
  by_cases hb : b = 0
  · refine sm_tup (st_of (h1.1 hb)) (st_of (h2.1 hb)) rfl (by show 1 ≤ 1000; decide) fun i x y hx hy => ?_
    have e : x = y := Option.some.inj (hx.symm.trans hy)
    subst e
    match i, hx with
    | 0, hx => cases hx; exact sm_flat rfl
    | i + 1, hx => cases hx
  · obtain ⟨r, a1, a2⟩ := h1.2 hb
    obtain ⟨r', b1, b2⟩ := h2.2 hb
    refine sm_tup (st_of a1) (st_of b1) rfl (by show 2 ≤ 1000; decide) fun i x y hx hy => ?_
    match i, hx, hy with
    | 0, hx, hy => cases hx; cases hy; exact sm_flat rfl
    | 1, hx, hy => cases hx; cases hy; exact sm_pr (st_of a2) (st_of b2)
    | i + 2, hx, hy => cases hx
end Hs
namespace Hs
open PySem PySem.Spec PyProof.Rows L2 Evl
section
variable {K : PySem.W.Frag} {σ : L2.St} {H : Hp} {D : Ends}
theorem eu_low {ta tb : TE} {x y : Int} {E : XK} (ha : Ev ta σ H (.int x)) (hb : Ev tb σ H (.int y)) (h0 : y ≠ 0) (h1 : x.natAbs < 2 ^ 900) (h2 : y.natAbs < 2 ^ 900) : EvU (tCall spLow [] E (tCons ta (tCons tb tNil))) σ H (prV (low x y)) := fun H1 e Q q =>
  ha H1 e _ fun H2 e2 => hb H2 (e.trans e2) _ fun H3 e3 => ⟨x, y, rfl, h0, h1, h2, fun p H4 hp e4 h4 => q p H4 (fresh_back (e2.trans e3) hp) ((e2.trans e3).trans e4) h4⟩
theorem eu_bin {n : Nat} {g : Int × Int → Int × Int → Int × Int} {i j : Nat} {p q : Addr} {x y : Int × Int} {E : XK} (hi : σ[i]? = some (some (.ref p))) (hj : σ[j]? = some (some (.ref q))) (hx : Fr2 K H p x n) (hy : Fr2 K H q y n) : EvU (tCall (spBin K n g) [] E (tCons (tVar i) (tCons (tVar j) tNil))) σ H (prV (g x y)) := fun H1 e Q k =>
  ⟨_, hi, _, hj, p, q, x, y, rfl, hx.ext e, hy.ext e, fun r H2 hr e2 h2 => k r H2 hr e2 h2⟩
theorem ev_ord {i j : Nat} {p q : Addr} {x y : Int × Int} {E : XK} (hi : σ[i]? = some (some (.ref p))) (hj : σ[j]? = some (some (.ref q))) (hx : Fr2 K H p x 300) (hy : Fr2 K H q y 300) : Ev (tCall (spOrd K) [] E (tCons (tVar i) (tCons (tVar j) tNil))) σ H (.int (cmp3 (x.1 * y.2) (y.1 * x.2))) := fun H1 e Q k =>
  ⟨_, hi, _, hj, p, q, x, y, rfl, hx.ext e, hy.ext e, k⟩
theorem ev_ftx {i : Nat} {p : Addr} {x : Int × Int} {E : XK} (hi : σ[i]? = some (some (.ref p))) (hx : Fr2 K H p x 300) : Ev (tCall (spTxt K) [] E (tCons (tVar i) tNil)) σ H (.str (ftx x)) := fun H1 e Q k =>
  ⟨_, hi, p, x, rfl, hx.ext e, k⟩
theorem s_lst3 {t1 t2 t3 : TE} {x1 x2 x3 : List V} {i : Nat} (h1 : EvU t1 σ H x1) (h2 : EvU t2 σ H x2) (h3 : EvU t3 σ H x3)
    (k : ∀ r1 r2 r3 p H', H p = none → Ex H H' → H' r1 = some (.tup x1) → H' r2 = some (.tup x2) → H' r3 = some (.tup x3) → H' p = some (.lst [.ref r1, .ref r2, .ref r3]) → D.nx (σ.set i (some (.ref p))) H') :
    tAsg (tLst (tCons t1 (tCons t2 (tCons t3 tNil)))) (gName i) D σ H :=
  h1 H (Ex.refl H) _ fun r1 H1 n1 e1 a1 => h2 H1 e1 _ fun r2 H2 n2 e2 a2 => h3 H2 (e1.trans e2) _ fun r3 H3 n3 e3 a3 => ⟨sz_of (by simp), fun p hp =>
    k r1 r2 r3 p _ (fresh_back ((e1.trans e2).trans e3) hp) (((e1.trans e2).trans e3).trans (Ex.new hp)) ((Ex.new hp) _ _ (e3 _ _ (e2 _ _ a1))) ((Ex.new hp) _ _ (e3 _ _ a2)) ((Ex.new hp) _ _ a3) upd_same⟩
theorem q_lst3 {t1 t2 t3 : TE} {x1 x2 x3 : List V} {i : Nat} {tz : TS} (h1 : EvU t1 σ H x1) (h2 : EvU t2 σ H x2) (h3 : EvU t3 σ H x3)
    (k : ∀ r1 r2 r3 p H', H p = none → Ex H H' → H' r1 = some (.tup x1) → H' r2 = some (.tup x2) → H' r3 = some (.tup x3) → H' p = some (.lst [.ref r1, .ref r2, .ref r3]) → tz D (σ.set i (some (.ref p))) H') :
    tSeq (tAsg (tLst (tCons t1 (tCons t2 (tCons t3 tNil)))) (gName i)) tz D σ H := s_lst3 (D := { D with nx := tz D }) h1 h2 h3 k
/-- not same([..], due): four pairs -/
theorem et_same4 {t1 t2 t3 t4 : TE} {x1 x2 x3 x4 : Int × Int} {j : Nat} {dl r1 r2 r3 r4 : Addr} {E : XK} (h1 : EvU t1 σ H (prV x1)) (h2 : EvU t2 σ H (prV x2)) (h3 : EvU t3 σ H (prV x3)) (h4 : EvU t4 σ H (prV x4))
    (hj : σ[j]? = some (some (.ref dl))) (hd : H dl = some (.lst [.ref r1, .ref r2, .ref r3, .ref r4])) (a1 : H r1 = some (.tup (prV x1))) (a2 : H r2 = some (.tup (prV x2))) (a3 : H r3 = some (.tup (prV x3))) (a4 : H r4 = some (.tup (prV x4))) :
    EvT (tNot (tB (tCall (spSame K 3) [] E (tCons (tLst (tCons t1 (tCons t2 (tCons t3 (tCons t4 tNil))))) (tCons (tVar j) tNil))))) σ H false := fun H0 e0 Q q =>
  h1 H0 e0 _ fun s1 H1 n1 e1 b1 => h2 H1 (e0.trans e1) _ fun s2 H2 n2 e2 b2 => h3 H2 ((e0.trans e1).trans e2) _ fun s3 H3 n3 e3 b3 => h4 H3 (((e0.trans e1).trans e2).trans e3) _ fun s4 H4 n4 e4 b4 => ⟨sz_of (by simp), fun p hp => ⟨_, hj, _, _, rfl, (by
    have eA : Ex H (upd H4 p (.lst [.ref s1, .ref s2, .ref s3, .ref s4])) := ((((e0.trans e1).trans e2).trans e3).trans e4).trans (Ex.new hp)
    have c1 : upd H4 p (.lst [.ref s1, .ref s2, .ref s3, .ref s4]) s1 = some (.tup (prV x1)) := (Ex.new hp) _ _ (e4 _ _ (e3 _ _ (e2 _ _ b1)))
    have c2 : upd H4 p (.lst [.ref s1, .ref s2, .ref s3, .ref s4]) s2 = some (.tup (prV x2)) := (Ex.new hp) _ _ (e4 _ _ (e3 _ _ b2))
    have c3 : upd H4 p (.lst [.ref s1, .ref s2, .ref s3, .ref s4]) s3 = some (.tup (prV x3)) := (Ex.new hp) _ _ (e4 _ _ b3)
    have c4 : upd H4 p (.lst [.ref s1, .ref s2, .ref s3, .ref s4]) s4 = some (.tup (prV x4)) := (Ex.new hp) _ _ b4
    refine sm_lst (sq_of upd_same) (sq_of (eA _ _ hd)) rfl (by show 4 ≤ 1000; decide) fun i x y hx hy => ?_
    match i, hx, hy with
    | 0, hx, hy => cases hx; cases hy; exact sm_pr (st_of c1) (st_of (eA _ _ a1))
    | 1, hx, hy => cases hx; cases hy; exact sm_pr (st_of c2) (st_of (eA _ _ a2))
    | 2, hx, hy => cases hx; cases hy; exact sm_pr (st_of c3) (st_of (eA _ _ a3))
    | 3, hx, hy => cases hx; cases hy; exact sm_pr (st_of c4) (st_of (eA _ _ a4))
    | i + 4, hx, hy => cases hx), fun H5 e5 => ⟨true, rfl, q H5 ((((e1.trans e2).trans e3).trans e4).trans ((Ex.new hp).trans e5))⟩⟩⟩
/-- not same of two new lists of flat values -/
theorem et_sameL {t1 t2 : TE} {xs : List V} {E : XK} {d : Nat} (h1 : EvL t1 σ H xs) (h2 : EvL t2 σ H xs) (hf : xs.all flatV = true) (hz : xs.length ≤ 1000) : EvT (tNot (tB (tCall (spSame K (d + 2)) [] E (tCons t1 (tCons t2 tNil))))) σ H false := fun H0 e0 Q q =>
  h1 H0 e0 _ fun p H1 n1 e1 b1 => h2 H1 (e0.trans e1) _ fun r H2 n2 e2 b2 => ⟨_, _, rfl, sm_lst (sq_of (e2 _ _ b1)) (sq_of b2) rfl hz (fun i x y hx hy => by
    have e : x = y := Option.some.inj (hx.symm.trans hy)
    subst e
    exact sm_flat (List.all_eq_true.mp hf x (List.mem_of_getElem? hx))), fun H3 e3 => ⟨true, rfl, q H3 ((e1.trans e2).trans e3)⟩⟩
theorem et_sameV {t1 t2 : TE} {v : V} {E : XK} {d : Nat} (h1 : Ev t1 σ H v) (h2 : Ev t2 σ H v) (hf : flatV v = true) : EvT (tNot (tB (tCall (spSame K (d + 1)) [] E (tCons t1 (tCons t2 tNil))))) σ H false := fun H0 e0 Q q =>
  h1 H0 e0 _ fun H1 e1 => h2 H1 (e0.trans e1) _ fun H2 e2 => ⟨_, _, rfl, sm_flat hf, fun H3 e3 => ⟨true, rfl, q H3 ((e1.trans e2).trans e3)⟩⟩
theorem rc_str {i : Int} (h : i.natAbs < 2 ^ 300) : RC (fun xs H Q => ∃ i : Int, xs = [.int i] ∧ i.natAbs.log2 < 1920 ∧ Q (.str (Str.ofString (toString i))) H) [.int i] H (.str (Str.ofString (toString i))) := fun H1 _ Q q => ⟨i, rfl, log300 h, q H1 (Ex.refl H1)⟩
theorem rv_cat {x y : Str} (h : x.length + y.length ≤ 100000) : RV (fun x y H Q => ∃ i j, x = .str i ∧ y = .str j ∧ i.length + j.length ≤ sizeLine ∧ Q (.str (i ++ j)) H) (.str x) (.str y) H (.str (x ++ y)) := fun H1 _ Q q => ⟨x, y, rfl, rfl, sz_of h, q H1 (Ex.refl H1)⟩
end
end Hs
namespace Hs
open PySem PySem.Spec PyProof.Rows L2 Evl
def lamQ : Str := ("law" : Str) ++ ".<locals>." ++ "<lambda>"
def spLaw (K : PySem.W.Frag) (T : List (Addr × Str)) : Sp := fun vs H Q _ => ∃ (a : Addr) (ns : List Int), vs = [.ref a] ∧ SqL K H a (ns.map V.int) ∧ ns.length ≤ 63 ∧ LamX.Tabs T H ∧ ∀ H', Q (.bl true) H'
/-- a pair that was drawn -/
def Drawn1 (H : Hp) (q : Addr × (Int × Int)) : Prop := H q.1 = some (.tup (prV q.2)) ∧ 0 < q.2.2 ∧ q.2.1.natAbs < 2 ^ 97 ∧ q.2.2.natAbs < 2 ^ 97
section
variable {P : Program} {w : World} {K : PySem.W.Frag} {mg : Str → Option Value} {base : Heap} {C c pt g : Addr} {cN cL cK cB cS cM cC : Addr}
abbrev sLaw : Stmt := top 28
theorem scLaw : FnScope ["_law_script", "_law_bag_here", "_law_turn", "_law_some", "_law_k", "_law_top", "_law_bottom", "_law_found", "_law_due", "_law_one", "_law_two", "_law_left", "_law_right", "_law_text"] ["_law_script"] (defScope sLaw) := ⟨rfl, rfl, rfl, by decide +kernel, rfl, by decide +kernel, by decide +kernel⟩
theorem law_body {A : Around} {outer : List Env} {s : Shared} {H : Hp} {E : XK} {f : Addr} (hr : Room 5 (A.deeper (envOfC "law" (defScope sLaw) s.heap.objs.size f (.ref c)))) {oc dV kV doc pm cdv ct' : Value} {an od : Option Addr} {osl : Array (Option Value)}
    (O__law_bag : Own P w K mg base 1 "_law_bag" ["_law_script"] (spBag K)) (O__law_any : Own P w K mg base 2 "_law_any" ["_law_bag_here"] spAny) (O__law_low : Own P w K mg base 2 "_law_low" ["_law_top", "_law_bottom"] spLow) (O__law_same : Own P w K mg base 3 "_law_same" ["_law_got", "_law_due"] (spSame K 3))
    (O_fraction : OwnX P w K mg base 3 "fraction" ["top", "bottom"] [] (spFrac C)) (O_fraction1 : OwnX P w K mg base 3 "fraction" ["top", "bottom"] [.int 1] (spFrac C)) (O_plus : Own P w K mg base 4 "plus" ["one", "other"] (spBin K 300 fPlus)) (O_less : Own P w K mg base 4 "less" ["one", "other"] (spBin K 300 fLess))
    (O_times : Own P w K mg base 4 "times" ["one", "other"] (spBin K 300 fTimes)) (O_middle : Own P w K mg base 5 "middle" ["one", "other"] (spBin K 140 fMid)) (O_order : Own P w K mg base 1 "order" ["one", "other"] (spOrd K)) (O__law_before : Own P w K mg base 1 "_law_before" ["_law_one", "_law_other"] (spOrd K)) (O_fraction_text : Own P w K mg base 1 "fraction_text" ["one"] (spTxt K))
    (m_tried : mg "_law_tried" = some (.ref g)) (kp_tried : PySem.W.keepIn K (.ref g) = true) (lk_tried : K.lookup g = some ⟨oc, od, .func (PySem.W.fnOf "_law_tried" "_law_tried" (defArgs sTried) (defBody sTried) (defScope sTried) dV kV doc pm an cdv ct'), osl⟩) (hc_tried : PySem.W.codeIn K cdv "_law_tried" = true)
    (b_tried : L2.Binds K (PySem.W.fnOf "_law_tried" "_law_tried" (defArgs sTried) (defBody sTried) (defScope sTried) dV kV doc pm an cdv ct') ["_law_act"] []) (ct : Cats mg cN cL cK cB cS cM cC) (TB : LamX.TabB base mg c pt)
    (g_range : mg "range" = none) (g_str : mg "str" = none) (g_FAR : ∃ u, mg "FAR" = some u ∧ RelV (.int 1000000) u) (wc : Word K C cN cL cK cB cS cM cC) {vs : List V} {Q : VK} (h : spLaw K [(pt, lamQ)] vs H Q E) :
    ∃ t, PSs (cxOf CX0 P w K mg base ["_law_script", "_law_bag_here", "_law_turn", "_law_some", "_law_k", "_law_top", "_law_bottom", "_law_found", "_law_due", "_law_one", "_law_two", "_law_left", "_law_right", "_law_text"] "law" (defScope sLaw) f (.ref c) A outer s H E) (defBody sLaw) t ∧ t { nx := fun _ H' => Q .non H', rt := Q } (L2.start ["_law_script", "_law_bag_here", "_law_turn", "_law_some", "_law_k", "_law_top", "_law_bottom", "_law_found", "_law_due", "_law_one", "_law_two", "_law_left", "_law_right", "_law_text"] vs) H := by
  have nd := scLaw.nd
  have hr5 : Room (3 + 2) (A.deeper (envOfC "law" (defScope sLaw) s.heap.objs.size f (.ref c))) := hr
  obtain ⟨uF, g_FAR⟩ := g_FAR
  refine ⟨_, PSs.nox (pss_cons (ps_set (i := 1) nd rfl (.inl rfl) (Hs.pe_own O__law_bag hr (by first | decide | omega) (by rfl) (pa_cons (pv 0) pa_nil)))
  (pss_cons (ps_for PassesOwn.never rfl (pi_range1 (by rfl) g_range (pa_cons pe_int pa_nil)) (pg_name (i := 2) nd rfl (.inl rfl)) (pss_cons (ps_set (i := 3) nd rfl (.inl rfl) (pe_lst pa_nil))
  (pss_cons (ps_for PassesOwn.never rfl (pi_range1 (by rfl) g_range (pa_cons pe_int pa_nil)) (pg_name (i := 4) nd rfl (.inl rfl)) (pss_cons (ps_asg (pe_tup (pa_cons (Hs.pe_own O__law_any hr (by first | decide | omega) (by rfl) (pa_cons (pv 1) pa_nil)) (pa_cons (Hs.pe_own O__law_any hr (by first | decide | omega) (by rfl) (pa_cons (pv 1) pa_nil)) pa_nil))) (pg_tup rfl (pgs_cons (pg_name (i := 5) nd rfl (.inr rfl)) (pgs_cons (pg_name (i := 6) nd rfl (.inr rfl)) pgs_nil))))
  (Evl.pss_cut (ps_set (i := 7) nd rfl (.inl rfl) (LamX.pe_lamcall (k := 3) (t := fun E => tCall (spFrac C) [] E (tCons (tVar 5) (tCons (tVar 6) tNil))) (by rfl) m_tried kp_tried lk_tried hc_tried b_tried scTried rfl (.inl rfl) (tried_gives ct) TB rfl (List.mem_singleton.mpr rfl) (fun p hp _ => by rw [List.mem_singleton.mp hp]) hr5 (LamX.lamS_by (sc := defScope sLaw) (by decide +kernel)) rfl (fun _ _ _ _ _ => rfl) (fun A outer s H E f c hr => pe_ownT O_fraction hr (by decide) (by rfl) (passes_call (takes_of rfl rfl rfl rfl) (fun _ _ _ _ h => h)) (pa_cons (pv 5) (pa_cons (pv 6) pa_nil)))))
  (Evl.pss_cut (ps_set (i := 8) nd rfl (.inl rfl) (pe_ifExp (pt_cmpR op_eq (pv 6) pe_int (nomark _)) (pe_tup (pa_cons pe_str pa_nil)) (pe_tup (pa_cons pe_str (pa_cons (Hs.pe_own O__law_low hr (by first | decide | omega) (by rfl) (pa_cons (pv 5) (pa_cons (pv 6) pa_nil))) pa_nil)))))
  (pss_cons (ps_if (PW.pt (pw_or (pt_not (pt_val (Hs.pe_own O__law_same hr (by first | decide | omega) (by rfl) (pa_cons (pv 7) (pa_cons (pv 8) pa_nil))))) (pw_or1 (pt_not (pt_val (Hs.pe_own O__law_same hr (by first | decide | omega) (by rfl) (pa_cons (Hs.pe_ownX O_fraction1 hr (by decide) (by rfl) (pa_cons (pv 5) pa_nil)) (pa_cons (pe_tup (pa_cons (pv 5) (pa_cons pe_int pa_nil))) pa_nil)))))))) (pss_one (ps_ret pe_bl)) pss_nil)
  (pss_one (ps_expr (pe_bm PySem.F.plainAttrs_list PySem.F.slot_list_append PySem.F.type_list_append mt_append (pv 3) (pa_cons (pe_ifExp (pt_cmpR op_ne (pv 6) pe_int (nomark _)) (pe_ix (r := rIxT K) ix_tup (pv 8) pe_int (fun _ _ => rfl)) (pe_tup (pa_cons (pv 5) (pa_cons pe_int pa_nil)))) pa_nil)))))))))
  (pss_cons (ps_asg (pv 3) (pg_unl rfl (pgs_cons (pg_name (i := 9) nd rfl (.inl rfl)) (pgs_cons (pg_name (i := 10) nd rfl (.inl rfl)) pgs_nil))))
  (pss_cons (ps_set (i := 6) nd rfl (.inr rfl) (pe_op op_mulW (pe_ix (r := rIxT K) ix_tup (pv 9) pe_int (fun _ _ => rfl)) (pe_ix (r := rIxT K) ix_tup (pv 10) pe_int (fun _ _ => rfl))))
  (pss_cons (ps_par (i := 11) (j := 12) (by rfl) nd rfl rfl (by decide) rfl rfl (pa_cons (pe_op op_mulW (pe_ix (r := rIxT K) ix_tup (pv 9) pe_int (fun _ _ => rfl)) (pe_ix (r := rIxT K) ix_tup (pv 10) pe_int (fun _ _ => rfl))) (pa_cons (pe_op op_mulW (pe_ix (r := rIxT K) ix_tup (pv 10) pe_int (fun _ _ => rfl)) (pe_ix (r := rIxT K) ix_tup (pv 9) pe_int (fun _ _ => rfl))) pa_nil)) (by rfl))
  (pss_cons (ps_set (i := 8) nd rfl (.inl rfl) (pe_lst (pa_cons (Hs.pe_own O__law_low hr (by first | decide | omega) (by rfl) (pa_cons (pe_op op_add (pv 11) (pv 12)) (pa_cons (pv 6) pa_nil))) (pa_cons (Hs.pe_own O__law_low hr (by first | decide | omega) (by rfl) (pa_cons (pe_op op_sub (pv 11) (pv 12)) (pa_cons (pv 6) pa_nil))) (pa_cons (Hs.pe_own O__law_low hr (by first | decide | omega) (by rfl) (pa_cons (pe_op op_mulW (pe_ix (r := rIxT K) ix_tup (pv 9) pe_int (fun _ _ => rfl)) (pe_ix (r := rIxT K) ix_tup (pv 10) pe_int (fun _ _ => rfl))) (pa_cons (pv 6) pa_nil))) pa_nil)))))
  (pss_cons (ps_expr (pe_bm PySem.F.plainAttrs_list PySem.F.slot_list_append PySem.F.type_list_append mt_append (pv 8) (pa_cons (Hs.pe_own O__law_low hr (by first | decide | omega) (by rfl) (pa_cons (pe_op op_add (pv 11) (pv 12)) (pa_cons (pe_op op_mulW pe_int (pv 6)) pa_nil))) pa_nil)))
  (pss_cons (ps_if (pt_not (pt_val (Hs.pe_own O__law_same hr (by first | decide | omega) (by rfl) (pa_cons (pe_lst (pa_cons (Hs.pe_own O_plus hr (by first | decide | omega) (by rfl) (pa_cons (pv 9) (pa_cons (pv 10) pa_nil))) (pa_cons (Hs.pe_own O_less hr (by first | decide | omega) (by rfl) (pa_cons (pv 9) (pa_cons (pv 10) pa_nil))) (pa_cons (Hs.pe_own O_times hr (by first | decide | omega) (by rfl) (pa_cons (pv 9) (pa_cons (pv 10) pa_nil))) (pa_cons (Hs.pe_own O_middle hr (by first | decide | omega) (by rfl) (pa_cons (pv 9) (pa_cons (pv 10) pa_nil))) pa_nil))))) (pa_cons (pv 8) pa_nil))))) (pss_one (ps_ret pe_bl)) pss_nil)
  (pss_cons (ps_if (pt_not (pt_val (Hs.pe_own O__law_same hr (by first | decide | omega) (by rfl) (pa_cons (pe_lst (pa_cons (Hs.pe_own O_order hr (by first | decide | omega) (by rfl) (pa_cons (pv 9) (pa_cons (pv 10) pa_nil))) (pa_cons (Hs.pe_own O_order hr (by first | decide | omega) (by rfl) (pa_cons (pv 9) (pa_cons (pv 9) pa_nil))) pa_nil))) (pa_cons (pe_lst (pa_cons (Hs.pe_own O__law_before hr (by first | decide | omega) (by rfl) (pa_cons (pv 9) (pa_cons (pv 10) pa_nil))) (pa_cons pe_int pa_nil))) pa_nil))))) (pss_one (ps_ret pe_bl)) pss_nil)
  (pss_cons (ps_set (i := 13) nd rfl (.inl rfl) (pe_ifExp (pt_cmpR op_eq (pe_ix (r := rIxT K) ix_tup (pv 9) pe_int (fun _ _ => rfl)) pe_int (nomark _)) (pe_callTy call_str_int (by rfl) g_str (by decide +kernel) (pa_cons (pe_ix (r := rIxT K) ix_tup (pv 9) pe_int (fun _ _ => rfl)) pa_nil)) (pe_op op_add_str (pe_op op_add_str (pe_callTy call_str_int (by rfl) g_str (by decide +kernel) (pa_cons (pe_ix (r := rIxT K) ix_tup (pv 9) pe_int (fun _ _ => rfl)) pa_nil)) pe_str) (pe_callTy call_str_int (by rfl) g_str (by decide +kernel) (pa_cons (pe_ix (r := rIxT K) ix_tup (pv 9) pe_int (fun _ _ => rfl)) pa_nil)))))
  (pss_one (ps_if (pt_not (pt_val (Hs.pe_own O__law_same hr (by first | decide | omega) (by rfl) (pa_cons (Hs.pe_own O_fraction_text hr (by first | decide | omega) (by rfl) (pa_cons (pv 9) pa_nil)) (pa_cons (pv 13) pa_nil))))) (pss_one (ps_ret pe_bl)) pss_nil)))))))))))))
  (pss_one (ps_ret (pe_cmpR op_eq (pe_glob (by rfl) g_FAR.1 g_FAR.2) pe_int (nomark _)))))), ?_⟩
  obtain ⟨a, ns, rfl, hS, hl, hT, k⟩ := h
  refine ⟨_, rfl, a, ns, rfl, hS, hl, fun b l H1 nb nl B1 e1 => ?_⟩
  have hT1 := hT.ext e1
  refine q_forR1 (n := 8) (ea_cons ev_c ea_nil) (by decide) (fun i σ' H' => (∃ v2 v3 v4 v5 v6 v7 v8 v9 v10 v11 v12 v13 : Option V, σ' = [some (.ref a), some (.ref b), v2, v3, v4, v5, v6, v7, v8, v9, v10, v11, v12, v13]) ∧ BagAt H' b l ns (8 * i) ∧ LamX.Tabs [(pt, lamQ)] H') ?_ ?_ ?_
  · intro H2 e2
    exact ⟨⟨none, none, none, none, none, none, none, none, none, none, none, none, rfl⟩, B1.ext e2 (by omega), hT1.ext e2⟩
  · rintro t σ' H2 ht ⟨⟨v2, v3, v4, v5, v6, v7, v8, v9, v10, v11, v12, v13, rfl⟩, B2, T2⟩
    refine ⟨sz_of (by simp), fun sl nsl => ?_⟩
    have b2 := bag_lst B2
    obtain ⟨xb, hb2⟩ := b2
    refine q_forR1 (n := 2) (ea_cons ev_c ea_nil) (by decide) (fun i σ' H' => ∃ (v4 v5 v6 v7 v8 v9 v10 v11 v12 v13 : Option V) (ps : List (Addr × (Int × Int))), σ' = [some (.ref a), some (.ref b), some (.int (t : Int)), some (.ref sl), v4, v5, v6, v7, v8, v9, v10, v11, v12, v13] ∧ BagAt H' b l ns (8 * t + 4 * i) ∧ LamX.Tabs [(pt, lamQ)] H' ∧ sl ≠ b ∧ sl ≠ l ∧ ps.length = i ∧
      H' sl = some (.lst (ps.map fun q => .ref q.1)) ∧ ∀ q ∈ ps, Drawn1 H' q) ?_ ?_ ?_
    · intro H3 e3
      have e23 : Ex H2 H3 := (Ex.new nsl).trans e3
      exact ⟨v4, v5, v6, v7, v8, v9, v10, v11, v12, v13, [], rfl, B2.ext e23 (by omega), T2.ext e23, Ne.symm (ne_of_none hb2 nsl), Ne.symm (ne_of_none B2.ls nsl), rfl, e3 _ _ upd_same, fun q hq => by cases hq⟩
    · rintro i σ' H4 hi ⟨v4, v5, v6, v7, v8, v9, v10, v11, v12, v13, ps, rfl, B4, T4, nsb, nsl', hps, hsl, hdr⟩
      obtain ⟨xb4, hb4⟩ := bag_lst B4
      refine ⟨_, rfl, b, l, ns, _, rfl, B4, by omega, fun x1 H5 hx1 B5 bt5 => ⟨_, rfl, b, l, ns, _, rfl, B5, by omega, fun x2 H6 hx2 B6 bt6 => ⟨sz_of (by simp), fun p hp => ⟨p, [.int x1, .int x2], rfl, st_of upd_same, rfl, _, _, rfl, _, _, rfl, rfl, ?_⟩⟩⟩⟩
      have bt := bt5.trans bt6
      have T6 := tabs_but T4 hb4 bt
      have e7 : Ex H6 (upd H6 p (.tup [.int x1, .int x2])) := Ex.new hp
      have dr6 : ∀ q ∈ ps, Drawn1 H6 q := fun q hq => ⟨bt _ _ (hdr q hq).1 (ne_of (hdr q hq).1 hb4 (by intro z; cases z)), (hdr q hq).2⟩
      refine q_cut (M := fun σ' H' => ∃ p7, σ' = [some (.ref a), some (.ref b), some (.int (t : Int)), some (.ref sl), some (.int (i : Int)), some (.int x1), some (.int x2), some (.ref p7), v8, v9, v10, v11, v12, v13] ∧ BagAt H' b l ns (8 * t + 4 * i + 4) ∧ LamX.Tabs [(pt, lamQ)] H' ∧
        H' sl = some (.lst (ps.map fun q => .ref q.1)) ∧ (∀ q ∈ ps, Drawn1 H' q) ∧ Told H' p7 x1 x2) ?_ ?_
      · refine ⟨T6.ext e7, fun H8 eN T8 => ?_⟩
        have fin : ∀ p7 H10, LamX.ExtN (upd H6 p (.tup [.int x1, .int x2])) H10 → LamX.Tabs [(pt, lamQ)] H10 → Told H10 p7 x1 x2 → ∃ p7', ([some (.ref a), some (.ref b), some (.int (t : Int)), some (.ref sl), some (.int (i : Int)), some (.int x1), some (.int x2), some (.ref p7), v8, v9, v10, v11, v12, v13] : L2.St) = [some (.ref a), some (.ref b), some (.int (t : Int)), some (.ref sl), some (.int (i : Int)), some (.int x1), some (.int x2), some (.ref p7'), v8, v9, v10, v11, v12, v13] ∧ BagAt H10 b l ns (8 * t + 4 * i + 4) ∧ LamX.Tabs [(pt, lamQ)] H10 ∧
            H10 sl = some (.lst (ps.map fun q => .ref q.1)) ∧ (∀ q ∈ ps, Drawn1 H10 q) ∧ Told H10 p7' x1 x2 := fun p7 H10 eN10 T10 td => by
          refine ⟨p7, rfl, bag_extN (B6.ext e7 (by omega)) eN10, T10, eN10 _ _ (e7 _ _ (bt _ _ hsl nsb)) (fun _ z => by cases z), fun q hq => ⟨eN10 _ _ (e7 _ _ (dr6 q hq).1) (fun _ z => by cases z), (dr6 q hq).2⟩, td⟩
        refine ⟨_, rfl, _, rfl, x1, x2, rfl, sm_mono hx1 (by decide), sm_mono hx2 (by decide), fun h0 d H9 e9 nd9 hd9 => ?_, fun hne r H9 nr e9 h9 => ?_⟩
        · refine ⟨C, d, _, "nought", rfl, rfl, wc, hd9, rfl, fun p7 np7 => ?_⟩
          exact fin p7 _ (eN.trans (.of (e9.trans (Ex.new np7)))) (T8.ext (e9.trans (Ex.new np7))) ⟨fun _ => upd_same, fun z => absurd h0 z⟩
        · refine ⟨sz_of (by simp), fun p7 np7 => ?_⟩
          exact fin p7 _ (eN.trans (.of (e9.trans (Ex.new np7)))) (T8.ext (e9.trans (Ex.new np7))) ⟨fun z => absurd z hne, fun _ => ⟨r, upd_same, (Ex.new np7) _ _ h9⟩⟩
      · rintro σ' H8 ⟨p7, rfl, B8, T8, hsl8, dr8, td8⟩
        refine q_cut (M := fun σ' H' => ∃ p8, σ' = [some (.ref a), some (.ref b), some (.int (t : Int)), some (.ref sl), some (.int (i : Int)), some (.int x1), some (.int x2), some (.ref p7), some (.ref p8), v9, v10, v11, v12, v13] ∧ Ex H8 H' ∧ Told H' p8 x1 x2) ?_ ?_
        · refine ⟨_, rfl, rfl, _, rfl, ?_⟩
          by_cases h0 : x2 = 0
          · refine ite_T (decide_eq_true (by rw [h0])) ?_
            exact ⟨sz_of (by simp), fun p8 np8 => ⟨p8, rfl, Ex.new np8, fun _ => upd_same, fun z => absurd h0 z⟩⟩
          · refine ite_F (decide_eq_false (fun z => h0 (by injection z))) ?_
            exact ⟨_, rfl, _, rfl, x1, x2, rfl, h0, sm_mono hx1 (by decide), sm_mono hx2 (by decide), fun r H9 nr e9 h9 => ⟨sz_of (by simp), fun p8 np8 => ⟨p8, rfl, e9.trans (Ex.new np8), fun z => absurd z h0, fun _ => ⟨r, upd_same, (Ex.new np8) _ _ h9⟩⟩⟩⟩
        · rintro σ' H9 ⟨p8, rfl, e9, td9⟩
          refine ⟨_, rfl, _, rfl, _, _, rfl, sm_told (td8.ext e9) td9, fun H10 e10 => ⟨true, rfl, ite_F rfl ?_⟩⟩
          refine ⟨_, rfl, x1, 1, rfl, sm_mono hx1 (by decide), by decide, fun z => absurd z (by decide), fun _ r H11 nr e11 h11 => ⟨_, rfl, sz_of (by simp), fun u nu => ⟨_, _, rfl, ?_, fun H12 e12 => ⟨true, rfl, ite_F rfl ?_⟩⟩⟩⟩
          · rw [low_one] at h11
            exact sm_pr (x := (x1, 1)) (st_of ((Ex.new nu) _ _ h11)) (st_of upd_same)
          · have e912 : Ex H9 H12 := (e10.trans e11).trans ((Ex.new nu).trans e12)
            have e812 := e9.trans e912
            have fin2 : ∀ (q : Addr × (Int × Int)) (H13 : Hp), Ex H12 H13 → Drawn1 H13 q → ∃ (u4 u5 u6 u7 u8 u9 u10 u11 u12 u13 : Option V) (ps' : List (Addr × (Int × Int))), ([some (.ref a), some (.ref b), some (.int (t : Int)), some (.ref sl), some (.int (i : Int)), some (.int x1), some (.int x2), some (.ref p7), some (.ref p8), v9, v10, v11, v12, v13] : L2.St) = [some (.ref a), some (.ref b), some (.int (t : Int)), some (.ref sl), u4, u5, u6, u7, u8, u9, u10, u11, u12, u13] ∧ BagAt (upd H13 sl (.lst ((ps.map fun q => V.ref q.1) ++ [.ref q.1]))) b l ns (8 * t + 4 * (i + 1)) ∧ LamX.Tabs [(pt, lamQ)] (upd H13 sl (.lst ((ps.map fun q => V.ref q.1) ++ [.ref q.1]))) ∧ sl ≠ b ∧ sl ≠ l ∧ ps'.length = i + 1 ∧
                (upd H13 sl (.lst ((ps.map fun q => V.ref q.1) ++ [.ref q.1]))) sl = some (.lst (ps'.map fun q => .ref q.1)) ∧ ∀ q' ∈ ps', Drawn1 (upd H13 sl (.lst ((ps.map fun q => V.ref q.1) ++ [.ref q.1]))) q' := fun q H13 e13 dq => by
              have e813 := e812.trans e13
              have up : ∀ q', Drawn1 H13 q' → Drawn1 (upd H13 sl (.lst ((ps.map fun q => V.ref q.1) ++ [.ref q.1]))) q' := fun q' dq' => ⟨by
                rw [upd_ne (ne_of dq'.1 (e813 _ _ hsl8) (by intro z; cases z))]
                exact dq'.1, dq'.2⟩
              refine ⟨_, _, _, _, _, _, _, _, _, _, ps ++ [q], rfl, bag_upd (B8.ext e813 (by omega)) (Ne.symm nsb) (Ne.symm nsl'), tabs_upd (T8.ext e813) (e813 _ _ hsl8), nsb, nsl', by rw [List.length_append, hps] <;> rfl, by rw [upd_same, List.map_append] <;> rfl, fun q' hq' => ?_⟩
              rcases List.mem_append.mp hq' with z | z
              · exact up q' ⟨e813 _ _ (dr8 q' z).1, (dr8 q' z).2⟩
              · rw [List.mem_singleton.mp z]
                exact up q dq
            have hz : (ps.map fun q => V.ref q.1).length < sizeLine := sz_lt (by rw [List.length_map]; omega)
            refine ⟨_, rfl, .inl ⟨rfl, _, sq_of (e812 _ _ hsl8)⟩, _, rfl, rfl, _, rfl, ?_⟩
            by_cases h0 : x2 = 0
            · refine ite_F (by rw [decide_eq_true (show V.int x2 = V.int 0 by rw [h0])] <;> rfl) ?_
              exact ⟨_, rfl, sz_of (by simp), fun u2 nu2 => ⟨sl, _, _, rfl, rfl, (Ex.new nu2) _ _ (e812 _ _ hsl8), hz, fin2 (u2, (x1, 1)) _ (Ex.new nu2) ⟨upd_same, (by show (0 : Int) < 1; decide), hx1, (by show (1 : Int).natAbs < 2 ^ 97; decide)⟩⟩⟩
            · refine ite_T (by rw [decide_eq_false (fun z => h0 (by injection z))] <;> rfl) ?_
              obtain ⟨r8, q1, q2⟩ := td9.2 h0
              exact ⟨_, rfl, p8, _, _, _, rfl, rfl, st_of (e912 _ _ q1), rfl, sl, _, _, rfl, rfl, e812 _ _ hsl8, hz, fin2 (r8, low x1 x2) _ (Ex.refl _) ⟨e912 _ _ q2, low_pos h0, Nat.lt_of_le_of_lt (low_b1 h0) hx1, Nat.lt_of_le_of_lt (low_b2 h0) hx2⟩⟩
    · rintro σ' H4 ⟨v4, v5, v6, v7, v8, v9, v10, v11, v12, v13, ps, rfl, B4, T4, nsb, nsl', hps, hsl, hdr⟩
      obtain ⟨q1, q2, rfl⟩ : ∃ q1 q2, ps = [q1, q2] := match ps, hps with
        | [q1, q2], _ => ⟨q1, q2, rfl⟩
      have d1 := hdr q1 (by simp)
      have d2 := hdr q2 (by simp)
      have f1 : Fr2 K H4 q1.1 q1.2 97 := ⟨st_of d1.1, d1.2⟩
      have f2 : Fr2 K H4 q2.1 q2.2 97 := ⟨st_of d2.1, d2.2⟩
      have le1 : (97 : Nat) ≤ 300 := by decide
      have m12 := wide_lt d1.2.2.1 d2.2.2.2
      have m21 := wide_lt d2.2.2.1 d1.2.2.2
      have mb := wide_lt d1.2.2.2 d2.2.2.2
      have mt := wide_lt d1.2.2.1 d2.2.2.1
      have hb0 := bot_ne d1.2.1 d2.2.1
      have h2b : 2 * (q1.2.2 * q2.2.2) ≠ 0 := Int.mul_ne_zero (by decide) hb0
      have m2b : (2 * (q1.2.2 * q2.2.2)).natAbs < 2 ^ (2 + (97 + 97)) := wide_lt (a := 2) (by decide) mb
      refine ⟨_, rfl, sl, _, rfl, sq_of hsl, rfl, _, _, rfl, _, _, rfl, rfl, ?_⟩
      refine q_asg (ev_op (ev_f2 rfl f1) (ev_f2 rfl f2) (rv_I (mul300 (sm_mono d1.2.2.2 le1) (sm_mono d2.2.2.2 le1)))) fun H5 e5 => ?_
      refine q_par (ea_cons (ev_op (ev_f1 rfl (f1.ext e5)) (ev_f2 rfl (f2.ext e5)) (rv_I (mul300 (sm_mono d1.2.2.1 le1) (sm_mono d2.2.2.2 le1)))) (ea_cons (ev_op (ev_f1 rfl (f2.ext e5)) (ev_f2 rfl (f1.ext e5)) (rv_I (mul300 (sm_mono d2.2.2.1 le1) (sm_mono d1.2.2.2 le1)))) ea_nil)) fun H6 e6 => ?_
      have e46 := e5.trans e6
      refine q_lst3 (eu_low (ev_op (ev_var rfl) (ev_var rfl) rv_I0) (ev_var rfl) hb0 (sm_mono (sm_add m12 m21) (by decide)) (sm_mono mb (by decide))) (eu_low (ev_op (ev_var rfl) (ev_var rfl) rv_I0) (ev_var rfl) hb0 (sm_mono (sm_sub m12 m21) (by decide)) (sm_mono mb (by decide)))
        (eu_low (ev_op (ev_f1 rfl (f1.ext e46)) (ev_f1 rfl (f2.ext e46)) (rv_I (mul300 (sm_mono d1.2.2.1 le1) (sm_mono d2.2.2.1 le1)))) (ev_var rfl) hb0 (sm_mono mt (by decide)) (sm_mono mb (by decide))) fun r1 r2 r3 dl H7 ndl e7 h1 h2 h3 hdl => ?_
      refine q_appU hdl (ev_var rfl) (eu_low (ev_op (ev_var rfl) (ev_var rfl) rv_I0) (ev_op ev_c (ev_var rfl) (rv_I (wide_mul (i := 2) (a := 2) (by decide) mb (by decide) (by decide) (by decide)))) h2b (sm_mono (sm_add m12 m21) (by decide)) (sm_mono m2b (by decide))) (by simp) fun r4 H8 n4 e8 h4 => ?_
      have e68 := e7.trans e8
      have e48 := e46.trans e68
      have hdl8 := e8 _ _ hdl
      have keep : ∀ q o, H8 q = some o → (∀ xs, o ≠ .lst xs) → (upd H8 dl (.lst ([.ref r1, .ref r2, .ref r3] ++ [.ref r4]))) q = some o := fun q o h hn => by
        rw [upd_ne (fun z => hn _ (Option.some.inj (h.symm.trans (by rw [z]; exact hdl8))))]
        exact h
      have k1 := keep _ _ (e48 _ _ d1.1) (fun _ z => by cases z)
      have k2 := keep _ _ (e48 _ _ d2.1) (fun _ z => by cases z)
      have g1 : Fr2 K (upd H8 dl (.lst ([.ref r1, .ref r2, .ref r3] ++ [.ref r4]))) q1.1 q1.2 97 := ⟨st_of k1, d1.2⟩
      have g2 : Fr2 K (upd H8 dl (.lst ([.ref r1, .ref r2, .ref r3] ++ [.ref r4]))) q2.1 q2.2 97 := ⟨st_of k2, d2.2⟩
      have g1' := g1.mono (m := 300) (by decide)
      have g2' := g2.mono (m := 300) (by decide)
      refine q_when (et_same4 (dl := dl) (r1 := r1) (r2 := r2) (r3 := r3) (r4 := r4) (eu_bin (g := fPlus) rfl rfl g1' g2') (eu_bin (g := fLess) rfl rfl g1' g2') (eu_bin (g := fTimes) rfl rfl g1' g2') (eu_bin (g := fMid) rfl rfl (g1.mono (by decide)) (g2.mono (by decide))) rfl upd_same
        (keep _ _ (e8 _ _ h1) (fun _ z => by cases z)) (keep _ _ (e8 _ _ h2) (fun _ z => by cases z)) (keep _ _ (e8 _ _ h3) (fun _ z => by cases z)) (keep _ _ h4 (fun _ z => by cases z))) (fun ht => Bool.noConfusion ht) (fun _ H10 e10 => ?_)
      have c0 : V.int (cmp3 (q1.2.1 * q1.2.2) (q1.2.1 * q1.2.2)) = V.int 0 := by
        unfold cmp3
        rw [if_neg (Int.lt_irrefl _), if_neg (Int.lt_irrefl _)]
      refine q_when (et_sameL (d := 1) (el_lst (ea_cons (ev_ord rfl rfl (g1'.ext e10) (g2'.ext e10)) (ea_cons (ev_is (ev_ord rfl rfl (g1'.ext e10) (g1'.ext e10)) c0) ea_nil)) (by simp)) (el_lst (ea_cons (ev_ord rfl rfl (g1'.ext e10) (g2'.ext e10)) (ea_cons ev_c ea_nil)) (by simp)) rfl (by simp)) (fun ht => Bool.noConfusion ht) (fun _ H11 e11 => ?_)
      have gt := g1'.ext (e10.trans e11)
      have l1 := len300 gt.2.2.1
      have l2 := len300 gt.2.2.2
      have l3 : ("/" : Str).length = 1 := by decide
      refine q_asg (v := .str (ftx q1.2)) (ev_if (et_test (ev_op (ev_f2 rfl gt) ev_c (rv_eq rfl))) (fun ht => ev_is (ev_cb (ea_cons (ev_f1 rfl gt) ea_nil) (rc_str gt.2.2.1)) ?_) (fun ht => ev_is (ev_op (ev_op (ev_cb (ea_cons (ev_f1 rfl gt) ea_nil) (rc_str gt.2.2.1)) ev_c (rv_cat (by omega))) (ev_cb (ea_cons (ev_f2 rfl gt) ea_nil) (rc_str gt.2.2.2)) (rv_cat (by rw [Str.length_append]; omega))) ?_)) fun H12 e12 => ?_
      · have h1 : q1.2.2 = 1 := by
          have := of_decide_eq_true ht
          injection this
        exact congrArg V.str (if_pos h1).symm
      · have h1 : ¬ q1.2.2 = 1 := fun z => (of_decide_eq_false ht) (by rw [z])
        exact congrArg V.str (if_neg h1).symm
      refine s_when (et_sameV (d := 2) (ev_ftx rfl (gt.ext e12)) (ev_var rfl) rfl) (fun ht => Bool.noConfusion ht) (fun _ H13 e13 => ?_)
      have eZ := (e10.trans e11).trans (e12.trans e13)
      obtain ⟨xb4, hb4⟩ := bag_lst B4
      exact ⟨⟨_, _, _, _, _, _, _, _, _, _, _, _, rfl⟩, (bag_upd (B4.ext (m := 8 * (t + 1)) e48 (by show 8 * t + 4 * 2 ≤ 8 * (t + 1); omega)) (ne_of_none (e46 _ _ hb4) ndl) (ne_of_none (e46 _ _ B4.ls) ndl)).ext eZ (Nat.le_refl _), (tabs_upd (T4.ext e48) hdl8).ext eZ⟩
  · rintro σ' H2 ⟨⟨v2, v3, v4, v5, v6, v7, v8, v9, v10, v11, v12, v13, rfl⟩, B2, T2⟩
    refine ⟨rfl, ?_⟩
    exact k H2
end
end Hs
namespace Hs
open PySem PySem.Spec PyProof.Rows L2 Evl
/-! ### the head: what the run of the top leaves -/
def oclsB (K : PySem.W.Frag) (C : Addr) : Bool := match K.lookup C with
  | some ⟨.type "type", _, .cls cd, sl⟩ => (match cd.mro, sl.toList with
    | .ref C' :: bm, [_, _, _, _, some (.builtin n), _] => C' == C && n == "ValueError.__new__" && !cd.hasDel && cd.hasDict && PySem.HandSPX.refsVE bm
    | _, _ => false)
  | _ => false
theorem ocls_of {K : PySem.W.Frag} {C : Addr} (q : oclsB K C = true) : ∃ nm q N bs bm sn sub ab col dd k0 k1 k2 k3 k5, K.lookup C = some (excClassObj nm q C N bs bm true sn sub ab col dd k0 k1 k2 k3 k5 "ValueError.__new__") ∧ PySem.HandSPX.refsVE bm = true := by
  unfold oclsB at q
  split at q
  · rename_i dd cd sl ho
    split at q
    · rename_i C' bm k0 k1 k2 k3 n k5 hm hs
      simp only [Bool.and_eq_true, beq_iff_eq, Bool.not_eq_true'] at q
      obtain ⟨⟨⟨⟨rfl, rfl⟩, hdel⟩, hdc⟩, ht⟩ := q
      obtain ⟨nm, bs, mro, ns, qn, hd, sn, sub, ab, col, del⟩ := cd
      dsimp only at hm hdel hdc
      subst hm hdel hdc
      have hsl : sl = #[k0, k1, k2, k3, some (.builtin "ValueError.__new__"), k5] := by
        obtain ⟨l⟩ := sl
        simp only at hs
        rw [hs]
      subst hsl
      exact ⟨nm, qn, ns, bs, bm, sn, sub, ab, col, dd, k0, k1, k2, k3, k5, ho, ht⟩
    · cases q
  · cases q
def oexB (K : PySem.W.Frag) (C : Addr) : Bool := oclsB K C && (He.eqO (PySem.W.findIn K (.ref C) "__setattr__") (some (some (.builtin "object.__setattr__"))) && (decide (PySem.W.subIn K (.ref C) (.type "BaseException") = some true) && (decide (PySem.W.typeIn K (.ref C) = some (.type "type")) && PySem.W.keepIn K (.ref C))))
theorem oexB_ok {K : PySem.W.Frag} {C : Addr} (h : oexB K C = true) : OexC K C := by
  obtain ⟨h1, h⟩ := He.ba h
  obtain ⟨h2, h⟩ := He.ba h
  obtain ⟨h3, h⟩ := He.ba h
  obtain ⟨h4, h5⟩ := He.ba h
  exact ⟨ocls_of h1, He.eqO_ok h2, of_decide_eq_true h3, of_decide_eq_true h4, h5⟩
/-- an own error: its class's name, the def of its __init__, its default, the file of its code -/
structure ErrD where
  cls : Str
  qual : Str
  st : Stmt
  why : Str
  file : Str
abbrev FnC : Type := Option (Str × Str × Arguments × FuncBody × Scope × Addr × List Str × Addr)
def iniA (K : PySem.W.Frag) (x : Str) : Addr := He.ma K (He.ga K x) "__init__"
def fnC (K : PySem.W.Frag) (x : Str) : FnC := match K.lookup (iniA K x) with
  | some ⟨_, _, .func fd, _⟩ => some (fd.name, fd.qualname, fd.params, fd.body, fd.scope, fd.globals, fd.closure.map (·.1), fd.builtins)
  | _ => none
def ErrD.val (d : ErrD) : FnC := some ("__init__", d.qual, defArgs d.st, .stmts (defBody d.st), defScope d.st, mainGlobals, ["__class__"], builtinsNs)
def fileB (K : PySem.W.Frag) (c : Addr) (file : Str) : Bool := match K.lookup c with
  | some ⟨_, _, .fields vs, _⟩ => (match (vs[2]? : Option Value) with
    | some (.str f _) => file == f
    | _ => false)
  | _ => false
def cellB (K : PySem.W.Frag) (cc C : Addr) : Bool := match K.lookup cc with
  | some ⟨_, _, .cell (some (.ref C')), _⟩ => decide (C' = C)
  | _ => false
def fileV (K : PySem.W.Frag) (file : Str) : Value → Bool
  | .ref c => fileB K c file
  | _ => false
def cloB (K : PySem.W.Frag) (C : Addr) : List (Str × Addr) → Bool
  | [(_, cc)] => cellB K cc C
  | _ => false
/-- the __init__ of d: its code object, its cell -/
def iniB (K : PySem.W.Frag) (d : ErrD) : Bool := match K.lookup (iniA K d.cls) with
  | some ⟨_, _, .func fd, _⟩ => PySem.W.codeIn K fd.code d.qual && (He.dflB K fd.defaults [.str d.why] && (fileV K d.file fd.code && cloB K (He.ga K d.cls) fd.closure))
  | _ => false
def errB (K : PySem.W.Frag) (d : ErrD) : Bool := oexB K (He.ga K d.cls) && (iniB K d && (decide (PySem.W.mroIn K (He.ga K d.cls) (.ref (He.ga K d.cls)) = some true) && (He.eqO (PySem.W.ks_superIn K (He.ga K d.cls) (He.ga K d.cls) "__init__") (some (some (.builtin "ValueError.__init__"))) &&
  (decide (PySem.W.subIn K (.ref (He.ga K d.cls)) (.type "ValueError") = some true) && (He.eqO (PySem.W.nsIn K cStatics "thirdparty.any") (some none) && (He.eqO (PySem.W.findIn K (.ref (He.ga K d.cls)) "__init__") (some (some (.ref (iniA K d.cls)))) &&
  (decide (PySem.W.typeIn K (.ref (iniA K d.cls)) = some (.type "function")) && He.eqO (PySem.W.findIn K (.ref (He.ga K d.cls)) "word") (some none))))))))
theorem fileB_ok {K : PySem.W.Frag} {c : Addr} {file : Str} (h : fileB K c file = true) : ∃ (ccl : Value) (cdd : Option Addr) (vs : Array Value) (ccs : Array (Option Value)) (f : Str) (tf : Tok), K.lookup c = some ⟨ccl, cdd, .fields vs, ccs⟩ ∧ vs[2]? = some (.str f tf) ∧ (file == f) = true := by
  unfold fileB at h
  split at h
  · rename_i ccl cdd vs ccs hk
    split at h
    · rename_i f tf hv
      exact ⟨ccl, cdd, vs, ccs, f, tf, hk, hv, h⟩
    · cases h
  · cases h
theorem cellB_ok {K : PySem.W.Frag} {cc C : Addr} (h : cellB K cc C = true) : ∃ (cl : Value) (cld : Option Addr) (csl : Array (Option Value)), K.lookup cc = some ⟨cl, cld, .cell (some (.ref C)), csl⟩ := by
  unfold cellB at h
  split at h
  · rename_i cl cld C' csl hk
    have e : C' = C := of_decide_eq_true h
    subst e
    exact ⟨cl, cld, csl, hk⟩
  · cases h
theorem iniB_ok {K : PySem.W.Frag} {d : ErrD} (e : fnC K d.cls = d.val) (h : iniB K d = true) :
    ∃ (c cc : Addr) (fd : FuncData), InitAt K d.qual d.st (iniA K d.cls) c cc [.str d.why] fd ∧ (∃ (ccl : Value) (cdd : Option Addr) (vs : Array Value) (ccs : Array (Option Value)) (f : Str) (tf : Tok), K.lookup c = some ⟨ccl, cdd, .fields vs, ccs⟩ ∧ vs[2]? = some (.str f tf) ∧ (d.file == f) = true) ∧
      ∃ (cl : Value) (cld : Option Addr) (csl : Array (Option Value)), K.lookup cc = some ⟨cl, cld, .cell (some (.ref (He.ga K d.cls))), csl⟩ := by
  unfold fnC at e
  unfold iniB at h
  cases q : K.lookup (iniA K d.cls) with
  | none =>
    rw [q] at h
    cases h
  | some o =>
    obtain ⟨oc, od, dt, osl⟩ := o
    rw [q] at h e
    cases dt with
    | func fd =>
      obtain ⟨n1, n2, n3, n4, n5, n6, n7, n8, n9, n10, n11, n12, n13, n14, n15⟩ := fd
      have e2 : (some (n1, n2, n3, n4, n5, n6, n7.map (·.1), n15) : FnC) = (some (("__init__" : Str), d.qual, defArgs d.st, FuncBody.stmts (defBody d.st), defScope d.st, mainGlobals, [("__class__" : Str)], builtinsNs) : FnC) := e
      simp only [Option.some.injEq, Prod.mk.injEq] at e2
      obtain ⟨h1, h2, h3, h4, h5, h6, h7, h8⟩ := e2
      subst h1 h2 h3 h4 h5 h6 h8
      have h0 : (PySem.W.codeIn K n13 d.qual && (He.dflB K n8 [.str d.why] && (fileV K d.file n13 && cloB K (He.ga K d.cls) n7))) = true := h
      obtain ⟨k1, h0⟩ := He.ba h0
      obtain ⟨k2, h0⟩ := He.ba h0
      obtain ⟨k3, k4⟩ := He.ba h0
      obtain ⟨c, rfl⟩ := He.codeIn_ref k1
      clear e h
      cases n7 with
      | nil => cases h7
      | cons z r =>
        cases r with
        | cons z2 r2 =>
          injection h7 with _ h9
          cases h9
        | nil =>
          obtain ⟨y, cc⟩ := z
          have ey : y = "__class__" := by
            have z : [y] = [("__class__" : Str)] := h7
            injection z
          subst ey
          exact ⟨c, cc, _, ⟨oc, od, n8, n9, n10, n11, n12, n14, osl, rfl, q, k1, He.dflB_ok k2⟩, fileB_ok k3, cellB_ok k4⟩
    | _ => cases h
/-! ### the Hook -/
/-- what is looked at: the module's names, and the statics -/
def asY (n : Nat) (g : Addr → Option Obj) : List Addr := cStatics :: He.asD g n
structure SaysY (fa : List He.Fa) (fn : List He.DefD) (tf : List He.Defn) (er : List ErrD) (ex : PySem.W.Frag → Bool) (w : World) (h : Heap) (K : PySem.W.Frag) : Prop where
  x : He.SaysX fa fn [] tf ex w h K
  er : ∀ d ∈ er, errB K d = true ∧ fnC K d.cls = d.val
abbrev AlY : Type := He.AlX × (Bool × List FnC)
def obsK (fa : List He.Fa) (fn : List He.DefD) (tf : List He.Defn) (er : List ErrD) (ex : PySem.W.Frag → Bool) (g : Addr → Option Obj) (K : PySem.W.Frag) : AlY := ((He.obsT fa fn [] K, ex K && He.tabsB g tf K), er.all (errB K), er.map fun d => fnC K d.cls)
def obsY (n : Nat) (fa : List He.Fa) (fn : List He.DefD) (tf : List He.Defn) (er : List ErrD) (ex : PySem.W.Frag → Bool) (g : Addr → Option Obj) : AlY := obsK fa fn tf er ex g (He.frT g (asY n g))
def valY (fn : List He.DefD) (er : List ErrD) (w : World) : AlY := (He.valX fn [] w, true, er.map ErrD.val)
theorem saysY_of {n : Nat} {fa : List He.Fa} {fn : List He.DefD} {tf : List He.Defn} {er : List ErrD} {ex : PySem.W.Frag → Bool} {w : World} {h : Heap} (e : obsY n fa fn tf er ex h.get? = valY fn er w) : SaysY fa fn tf er ex w h (He.frT h.get? (asY n h.get?)) := by
  have e1 : He.obsT fa fn [] (He.frT h.get? (asY n h.get?)) = He.valT fn [] w := congrArg (fun z : AlY => z.1.1) e
  have e2 : (ex (He.frT h.get? (asY n h.get?)) && He.tabsB h.get? tf (He.frT h.get? (asY n h.get?))) = true := congrArg (fun z : AlY => z.1.2) e
  have e3 : er.all (errB (He.frT h.get? (asY n h.get?))) = true := congrArg (fun z : AlY => z.2.1) e
  have e4 : er.map (fun d => fnC (He.frT h.get? (asY n h.get?)) d.cls) = er.map ErrD.val := congrArg (fun z : AlY => z.2.2) e
  generalize hK : He.frT h.get? (asY n h.get?) = K at e1 e2 e3 e4 ⊢
  obtain ⟨h1, h2⟩ := He.ba e2
  have key : ∀ p ∈ tf, PySem.W.codeHdIn K (He.cT K p).1 (He.cT K p).2 = true ∧ ∃ o, h.get? (He.cT K p).2 = some o ∧ He.emptyTab o = true := fun p hp => by
    obtain ⟨h3, h4⟩ := He.ba (List.all_eq_true.mp h2 p hp)
    refine ⟨h3, ?_⟩
    cases q : h.get? (He.cT K p).2 with
    | none =>
      rw [q] at h4
      cases h4
    | some o =>
      rw [q] at h4
      exact ⟨o, rfl, h4⟩
  refine ⟨⟨e1, h1, fun p hp => (key p hp).1, fun p hp => ?_, fun p hp => ?_⟩, fun d hd => ⟨List.all_eq_true.mp e3 d hd, List.map_inj_left.mp e4 d hd⟩⟩
  · obtain ⟨_, o, q, z⟩ := key p hp
    have y := He.frT_none (as := asY n h.get?) q z
    rw [hK] at y
    exact y
  · obtain ⟨_, o, q, z⟩ := key p hp
    rw [q, He.emptyTab_eq z]
def hookY (n : Nat) (fa : List He.Fa) (fn : List He.DefD) (tf : List He.Defn) (er : List ErrD) (ex : PySem.W.Frag → Bool) : PySem.W.Hook where
  α := AlY
  obs := fun s => obsY n fa fn tf er ex s.heap.get?
  val := fun w => valY fn er w
  says := fun w h => ∃ K : PySem.W.Frag, K.In h ∧ SaysY fa fn tf er ex w h K
  of := fun _ _ e => ⟨_, He.frT_in, saysY_of e⟩
  keeps := fun _ _ _ ⟨K, hK, c⟩ k => ⟨K, PySem.W.Frag.In.keeps hK k, ⟨⟨c.x.t, c.x.more, c.x.hd, c.x.out, fun p hp => k _ _ (c.x.empty p hp)⟩, c.er⟩⟩
theorem obsY_eq {n : Nat} {fa : List He.Fa} {fn : List He.DefD} {tf : List He.Defn} {er : List ErrD} {ex : PySem.W.Frag → Bool} {g : Addr → Option Obj} {s : Shared} (h : ∀ a, g a = s.heap.get? a) : obsY n fa fn tf er ex g = (hookY n fa fn tf er ex).obs s := by
  have e : g = s.heap.get? := funext h
  rw [e] <;> rfl
end Hs
namespace Hs
open PySem PySem.Spec PyProof.Rows L2 Evl
/-! ### the facts of the top -/
def dsCommon : He.DefD := ⟨("common_part", none), "common_part", "common_part", defArgs sCommon, defBody sCommon, defScope sCommon, [], []⟩
def dsPlus : He.DefD := ⟨("plus", none), "plus", "plus", defArgs sPlus, defBody sPlus, defScope sPlus, [], []⟩
def dsLess : He.DefD := ⟨("less", none), "less", "less", defArgs sLess, defBody sLess, defScope sLess, [], []⟩
def dsTimes : He.DefD := ⟨("times", none), "times", "times", defArgs sTimes, defBody sTimes, defScope sTimes, [], []⟩
def dsMiddle : He.DefD := ⟨("middle", none), "middle", "middle", defArgs sMiddle, defBody sMiddle, defScope sMiddle, [], []⟩
def dsOrder : He.DefD := ⟨("order", none), "order", "order", defArgs sOrder, defBody sOrder, defScope sOrder, [], []⟩
def dsFtext : He.DefD := ⟨("fraction_text", none), "fraction_text", "fraction_text", defArgs sFtext, defBody sFtext, defScope sFtext, [], []⟩
def dsBag : He.DefD := ⟨("_law_bag", none), "_law_bag", "_law_bag", defArgs sBag, defBody sBag, defScope sBag, [], []⟩
def dsPull : He.DefD := ⟨("_law_pull", none), "_law_pull", "_law_pull", defArgs sPull, defBody sPull, defScope sPull, [], []⟩
def dsSame : He.DefD := ⟨("_law_same", none), "_law_same", "_law_same", defArgs sSame, defBody sSame, defScope sSame, [], []⟩
def dsTried : He.DefD := ⟨("_law_tried", none), "_law_tried", "_law_tried", defArgs sTried, defBody sTried, defScope sTried, [], []⟩
def dsGcd : He.DefD := ⟨("_law_gcd", none), "_law_gcd", "_law_gcd", defArgs sGcd, defBody sGcd, defScope sGcd, [], []⟩
def dsLow : He.DefD := ⟨("_law_low", none), "_law_low", "_law_low", defArgs sLow, defBody sLow, defScope sLow, [], []⟩
def dsBefore : He.DefD := ⟨("_law_before", none), "_law_before", "_law_before", defArgs sBefore, defBody sBefore, defScope sBefore, [], []⟩
def dsAny : He.DefD := ⟨("_law_any", none), "_law_any", "_law_any", defArgs sAny, defBody sAny, defScope sAny, [], []⟩
def dsLaw : He.DefD := ⟨("law", none), "law", "law", defArgs sLaw, defBody sLaw, defScope sLaw, [], []⟩
def dsFrac : He.DefD := ⟨("fraction", none), "fraction", "fraction", defArgs sFrac, defBody sFrac, defScope sFrac, [.int 1], []⟩
def fn : List He.DefD := [dsCommon, dsPlus, dsLess, dsTimes, dsMiddle, dsOrder, dsFtext, dsBag, dsPull, dsSame, dsTried, dsGcd, dsLow, dsBefore, dsAny, dsLaw, dsFrac]
def fa : List He.Fa := [.glo "common_part", .glo "plus", .glo "less", .glo "times", .glo "middle", .glo "order", .glo "fraction_text", .glo "_law_bag", .glo "_law_pull", .glo "_law_same", .glo "_law_tried", .glo "_law_gcd", .glo "_law_low", .glo "_law_before", .glo "_law_any", .glo "law", .glo "fraction", .glo "Nought", .glo "NoThing", .glo "NoLook", .glo "Looked", .glo "BadText", .glo "ShadeError", .glo "Missing", .glo "Crowded", .free "len", .free "list", .free "abs", .free "int", .free "str", .free "bool", .free "tuple", .free "isinstance", .free "all", .free "range", .free "super", .int "FAR" 1000000]
abbrev sNought : Stmt := inClass (top 3) 0
def dNought : ErrD := ⟨"Nought", "Nought.__init__", sNought, "a bottom of 0", "/claim/cut.py"⟩
def wordB (K : PySem.W.Frag) (C cN cL cK cB cS cM cC : Addr) : Bool := decide (PySem.W.exmOne K (.ref C) (.ref cN) = some false) && (decide (PySem.W.exmAny K (.ref C) [.ref cL, .ref cK] = some false) && (decide (PySem.W.exmOne K (.ref C) (.ref cB) = some false) && (decide (PySem.W.exmAny K (.ref C) [.ref cS, .ref cM, .ref cC] = some true) && (xfB K C && He.eqO (PySem.W.findIn K (.ref C) "word") (some none)))))
theorem wordB_ok {K : PySem.W.Frag} {C cN cL cK cB cS cM cC : Addr} (h : wordB K C cN cL cK cB cS cM cC = true) : Word K C cN cL cK cB cS cM cC := by
  obtain ⟨h1, h⟩ := He.ba h
  obtain ⟨h2, h⟩ := He.ba h
  obtain ⟨h3, h⟩ := He.ba h
  obtain ⟨h4, h⟩ := He.ba h
  obtain ⟨h5, h6⟩ := He.ba h
  exact ⟨of_decide_eq_true h1, of_decide_eq_true h2, of_decide_eq_true h3, of_decide_eq_true h4, xfB_ok h5, He.eqO_ok h6⟩
def exB (K : PySem.W.Frag) : Bool := wordB K (He.ga K "Nought") (He.ga K "NoThing") (He.ga K "NoLook") (He.ga K "Looked") (He.ga K "BadText") (He.ga K "ShadeError") (He.ga K "Missing") (He.ga K "Crowded")
abbrev R : PySem.W.OpenRow := PySem.W.OpenLaw.row PySem.Challenge.rw_hueshade_k07_fractions
abbrev hk : PySem.W.Hook := hookY 4 fa fn [("law", none)] [dNought] exB
def ob (s : PySem.W.SharedT) : AlY := obsY 4 fa fn [("law", none)] [dNought] exB (HandSHeadRun.getT s)
theorem ob_eq (s : PySem.W.SharedT) : ob s = hk.obs s.abs := obsY_eq (HandSHeadRun.getT_eq s)
abbrev others : List Str := ["__name__", "ShadeError", "BadText", "Nought", "Missing", "NoThing", "NoLook", "Crowded", "Looked", "FAR", "common_part", "fraction", "plus", "less", "times", "middle", "order", "fraction_text", "_law_bag", "_law_pull", "_law_same", "_law_tried", "_law_gcd", "_law_low", "_law_before", "_law_any"]
theorem run (w : World) : HandSHeadRun.RunEq R (PySem.W.view R.prog [28]) hk ob 5000 others w := by
  intro os
  kernel_rfl
end Hs
namespace Hs
open PySem PySem.Spec PyProof.Rows L2 Evl
/-- the error of a bottom of nought, as it stands -/
theorem nought_ok {P : Program} {w : World} {K : PySem.W.Frag} {mg : Str → Option Value} {base : Heap} (hP : (P.main.file : Str) = "/claim/cut.py") (hPs : (P.main.scope.names.lookup ("super" : Str)).isSome = false) (gs : mg "super" = none) (gx : mg "Nought" = some (.ref (He.ga K "Nought")))
    (h : errB K dNought = true) (e : fnC K dNought.cls = dNought.val) : ErrF P w K mg base 1 "Nought" (He.ga K "Nought") "nought" := by
  obtain ⟨h1, h⟩ := He.ba h
  obtain ⟨h2, h⟩ := He.ba h
  obtain ⟨h3, h⟩ := He.ba h
  obtain ⟨h4, h⟩ := He.ba h
  obtain ⟨h5, h⟩ := He.ba h
  obtain ⟨h6, h⟩ := He.ba h
  obtain ⟨h7, h⟩ := He.ba h
  obtain ⟨h8, h9⟩ := He.ba h
  obtain ⟨c, cc, fd, I0, hf, hc⟩ := iniB_ok e h2
  have ox := oexB_ok h1
  have T : SupC P K mg (He.ga K "Nought") c cc := ⟨ox, by rw [hP]; exact hf, hc, of_decide_eq_true h3, He.eqO_ok h4, of_decide_eq_true h5, He.eqO_ok h6, gs, hPs⟩
  have G : FnOk P w K mg base CX0 1 (iniA K "Nought") fd ["self", "why"] (spErr (He.ga K "Nought") "nought") := err_ok (st := sNought) T I0 (He.eqO_ok h9) rfl
    (NdefX.nscope_by (by decide +kernel)) rfl rfl rfl rfl rfl (fun _ => rfl) (fun _ => rfl) (fun _ => rfl) (fun _ => rfl) (fun _ => rfl)
  obtain ⟨oc, od, dV, kV, doc, pm, an, ct, osl, rfl, lk, hcd, hD⟩ := I0
  rcases hD with ⟨z, _⟩ | ⟨_, Ta, o, its, m, rfl, lT, oT, rT⟩
  · cases z
  · have hits : ∃ d, its = [d] := by
      have l := rT.length
      match its, l with
      | [d], _ => exact ⟨d, rfl⟩
    obtain ⟨d, rfl⟩ := hits
    have rd : RelV (.str "a bottom of 0") d := match rT with
      | .cons r _ => r
    refine ⟨ox, gx, _, _, _, _, d, He.eqO_ok h7, of_decide_eq_true h8, G, rd, fun s us X hlen => ?_⟩
    have hl1 : us.length = 1 := by
      rw [List.length_append] at hlen
      exact Nat.succ.inj hlen
    match us, hl1 with
    | [u], _ =>
      refine BindsTo.of_looks fun M => ?_
      exact looks_items X lT oT (.of_pure rfl)
theorem facts {P : Program} {w : World} {K : PySem.W.Frag} {h : Heap} {mg : Str → Option Value} {f : Addr} (hP : (P.main.file : Str) = "/claim/cut.py") (hPs : (P.main.scope.names.lookup ("super" : Str)).isSome = false) (X : K.In h) (G : h.Ns mainGlobals mg) (hfa : mg ("law" : Str) = some (.ref f)) (c : SaysY fa fn [("law", none)] [dNought] exB w h K) :
    ∃ (fd : FuncData) (cc pt : Addr), h.get? pt = some { cls := .none, data := .fields #[] } ∧ K.lookup pt = none ∧ PySem.W.CodeHd h cc pt ∧ (∀ (s : Shared) (v : Value), BindsTo s fd ⟨[v], []⟩ [("_law_script", v)]) ∧
      ∀ base : Heap, LamX.TabB base mg cc pt → FnOk P w K mg base CX0 6 f fd ["_law_script"] (spLaw K [(pt, lamQ)]) := by
  have cd := c.x.t.d
  obtain ⟨fd_common_part, F_common_part⟩ : ∃ fd, FnP K "common_part" sCommon (He.ga K "common_part") fd := cd.def_ 0 (d := dsCommon) rfl
  have m_common_part := He.glo_ok X G (cd.fact 0 (f := .glo "common_part") rfl)
  obtain ⟨fd_plus, F_plus⟩ : ∃ fd, FnP K "plus" sPlus (He.ga K "plus") fd := cd.def_ 1 (d := dsPlus) rfl
  have m_plus := He.glo_ok X G (cd.fact 1 (f := .glo "plus") rfl)
  obtain ⟨fd_less, F_less⟩ : ∃ fd, FnP K "less" sLess (He.ga K "less") fd := cd.def_ 2 (d := dsLess) rfl
  have m_less := He.glo_ok X G (cd.fact 2 (f := .glo "less") rfl)
  obtain ⟨fd_times, F_times⟩ : ∃ fd, FnP K "times" sTimes (He.ga K "times") fd := cd.def_ 3 (d := dsTimes) rfl
  have m_times := He.glo_ok X G (cd.fact 3 (f := .glo "times") rfl)
  obtain ⟨fd_middle, F_middle⟩ : ∃ fd, FnP K "middle" sMiddle (He.ga K "middle") fd := cd.def_ 4 (d := dsMiddle) rfl
  have m_middle := He.glo_ok X G (cd.fact 4 (f := .glo "middle") rfl)
  obtain ⟨fd_order, F_order⟩ : ∃ fd, FnP K "order" sOrder (He.ga K "order") fd := cd.def_ 5 (d := dsOrder) rfl
  have m_order := He.glo_ok X G (cd.fact 5 (f := .glo "order") rfl)
  obtain ⟨fd_fraction_text, F_fraction_text⟩ : ∃ fd, FnP K "fraction_text" sFtext (He.ga K "fraction_text") fd := cd.def_ 6 (d := dsFtext) rfl
  have m_fraction_text := He.glo_ok X G (cd.fact 6 (f := .glo "fraction_text") rfl)
  obtain ⟨fd__law_bag, F__law_bag⟩ : ∃ fd, FnP K "_law_bag" sBag (He.ga K "_law_bag") fd := cd.def_ 7 (d := dsBag) rfl
  have m__law_bag := He.glo_ok X G (cd.fact 7 (f := .glo "_law_bag") rfl)
  obtain ⟨fd__law_pull, F__law_pull⟩ : ∃ fd, FnP K "_law_pull" sPull (He.ga K "_law_pull") fd := cd.def_ 8 (d := dsPull) rfl
  have m__law_pull := He.glo_ok X G (cd.fact 8 (f := .glo "_law_pull") rfl)
  obtain ⟨fd__law_same, F__law_same⟩ : ∃ fd, FnP K "_law_same" sSame (He.ga K "_law_same") fd := cd.def_ 9 (d := dsSame) rfl
  have m__law_same := He.glo_ok X G (cd.fact 9 (f := .glo "_law_same") rfl)
  obtain ⟨fd__law_tried, F__law_tried⟩ : ∃ fd, FnP K "_law_tried" sTried (He.ga K "_law_tried") fd := cd.def_ 10 (d := dsTried) rfl
  have m__law_tried := He.glo_ok X G (cd.fact 10 (f := .glo "_law_tried") rfl)
  obtain ⟨fd__law_gcd, F__law_gcd⟩ : ∃ fd, FnP K "_law_gcd" sGcd (He.ga K "_law_gcd") fd := cd.def_ 11 (d := dsGcd) rfl
  have m__law_gcd := He.glo_ok X G (cd.fact 11 (f := .glo "_law_gcd") rfl)
  obtain ⟨fd__law_low, F__law_low⟩ : ∃ fd, FnP K "_law_low" sLow (He.ga K "_law_low") fd := cd.def_ 12 (d := dsLow) rfl
  have m__law_low := He.glo_ok X G (cd.fact 12 (f := .glo "_law_low") rfl)
  obtain ⟨fd__law_before, F__law_before⟩ : ∃ fd, FnP K "_law_before" sBefore (He.ga K "_law_before") fd := cd.def_ 13 (d := dsBefore) rfl
  have m__law_before := He.glo_ok X G (cd.fact 13 (f := .glo "_law_before") rfl)
  obtain ⟨fd__law_any, F__law_any⟩ : ∃ fd, FnP K "_law_any" sAny (He.ga K "_law_any") fd := cd.def_ 14 (d := dsAny) rfl
  have m__law_any := He.glo_ok X G (cd.fact 14 (f := .glo "_law_any") rfl)
  obtain ⟨fd_law, F_law⟩ : ∃ fd, FnP K "law" sLaw (He.ga K "law") fd := cd.def_ 15 (d := dsLaw) rfl
  have m_law := He.glo_ok X G (cd.fact 15 (f := .glo "law") rfl)
  obtain ⟨fd_fraction, F_fraction⟩ : ∃ fd, FunD K "fraction" "fraction" (defArgs sFrac) (defBody sFrac) (defScope sFrac) [.int 1] [] (He.ga K "fraction") fd := cd.def_ 16 (d := dsFrac) rfl
  have m_fraction := He.glo_ok X G (cd.fact 16 (f := .glo "fraction") rfl)
  have m_Nought := He.glo_ok X G (cd.fact 17 (f := .glo "Nought") rfl)
  have m_NoThing := He.glo_ok X G (cd.fact 18 (f := .glo "NoThing") rfl)
  have m_NoLook := He.glo_ok X G (cd.fact 19 (f := .glo "NoLook") rfl)
  have m_Looked := He.glo_ok X G (cd.fact 20 (f := .glo "Looked") rfl)
  have m_BadText := He.glo_ok X G (cd.fact 21 (f := .glo "BadText") rfl)
  have m_ShadeError := He.glo_ok X G (cd.fact 22 (f := .glo "ShadeError") rfl)
  have m_Missing := He.glo_ok X G (cd.fact 23 (f := .glo "Missing") rfl)
  have m_Crowded := He.glo_ok X G (cd.fact 24 (f := .glo "Crowded") rfl)
  have g_len := He.free_ok X G (cd.fact 25 (f := .free "len") rfl)
  have g_list := He.free_ok X G (cd.fact 26 (f := .free "list") rfl)
  have g_abs := He.free_ok X G (cd.fact 27 (f := .free "abs") rfl)
  have g_int := He.free_ok X G (cd.fact 28 (f := .free "int") rfl)
  have g_str := He.free_ok X G (cd.fact 29 (f := .free "str") rfl)
  have g_bool := He.free_ok X G (cd.fact 30 (f := .free "bool") rfl)
  have g_tuple := He.free_ok X G (cd.fact 31 (f := .free "tuple") rfl)
  have g_isinstance := He.free_ok X G (cd.fact 32 (f := .free "isinstance") rfl)
  have g_all := He.free_ok X G (cd.fact 33 (f := .free "all") rfl)
  have g_range := He.free_ok X G (cd.fact 34 (f := .free "range") rfl)
  have g_super := He.free_ok X G (cd.fact 35 (f := .free "super") rfl)
  obtain ⟨tF, m_FAR⟩ := He.int_ok X G (cd.fact 36 (f := .int "FAR" 1000000) rfl)
  have ef : f = He.ga K "law" := by
    have e := hfa.symm.trans m_law
    cases e
    rfl
  subst ef
  have wc := wordB_ok (show wordB K (He.ga K "Nought") (He.ga K "NoThing") (He.ga K "NoLook") (He.ga K "Looked") (He.ga K "BadText") (He.ga K "ShadeError") (He.ga K "Missing") (He.ga K "Crowded") = true from c.x.more)
  have ct : Cats mg (He.ga K "NoThing") (He.ga K "NoLook") (He.ga K "Looked") (He.ga K "BadText") (He.ga K "ShadeError") (He.ga K "Missing") (He.ga K "Crowded") := ⟨m_NoThing, m_NoLook, m_Looked, m_BadText, m_ShadeError, m_Missing, m_Crowded⟩
  obtain ⟨erB, erV⟩ := c.er dNought (List.mem_singleton.mpr rfl)
  have hb := FunD.bindsA (ps := ["_law_script"]) F_law fun _ _ _ _ _ _ us hl => match us, hl with | [_], _ => rfl
  have b1 : ∃ ds, Vals ([V.int 1].drop 1) ds ∧ Binds K fd_fraction ["top", "bottom"] ds := F_fraction.binds1 2 1 (by simp) rfl fun T kV doc pm an cdv ct us its hl hi => match us, its, hl, hi with
    | [_, _], [_], _, _ => ⟨_, rfl, rfl⟩
  have b2 : ∃ ds, Vals ([V.int 1].drop 0) ds ∧ Binds K fd_fraction ["top", "bottom"] ds := F_fraction.binds1 1 0 (by simp) rfl fun T kV doc pm an cdv ct us its hl hi => match us, its, hl, hi with
    | [_], [_], _, _ => ⟨_, rfl, rfl⟩
  obtain ⟨ds1, v1, b1⟩ := b1
  obtain ⟨ds2, v2, b2⟩ := b2
  have bT := F__law_tried.bindsN (ps := ["_law_act"]) fun _ _ _ _ _ _ us hl => match us, hl with | [_], _ => rfl
  obtain ⟨ocT, odT, dVT, kVT, docT, pmT, anT, cdvT, ctT, oslT, rfl, lkT, hcdT, _, _⟩ := F__law_tried.ex
  have kpT := F__law_tried.kp
  obtain ⟨oc, od, dV, kV, doc, pm, an, cdv, ctt, osl, rfl, lk, hcd, _, _⟩ := F_law.ex
  obtain ⟨cc, rfl⟩ := He.codeIn_ref hcd
  have ecc : He.codeOf K ("law", none) = cc := He.codeOf_eq (p := ("law", none)) lk rfl
  refine ⟨_, cc, He.tabOf K cc, ?_, ?_, ?_, fun s v => hb s [v] rfl, fun base TB => ?_⟩
  · have z := c.x.empty ("law", none) (List.mem_singleton.mpr rfl)
    rw [← ecc]
    exact z
  · have z := c.x.out ("law", none) (List.mem_singleton.mpr rfl)
    rw [← ecc]
    exact z
  · have z := c.x.hd ("law", none) (List.mem_singleton.mpr rfl)
    rw [← ecc]
    exact PySem.W.codeHd_of_K X z
  · have Er := nought_ok (P := P) (w := w) (base := base) hP hPs g_super m_Nought erB erV
    have O_common_part := own_of F_common_part m_common_part (ok_common (P := P) (w := w) (base := base) F_common_part g_abs) (fun _ _ _ _ _ _ us hl => match us, hl with | [_, _], _ => rfl)
    have O__law_gcd := own_of F__law_gcd m__law_gcd (ok_gcd (P := P) (w := w) (base := base) F__law_gcd g_abs) (fun _ _ _ _ _ _ us hl => match us, hl with | [_, _], _ => rfl)
    have O__law_low := own_of F__law_low m__law_low (ok_low F__law_low O__law_gcd) (fun _ _ _ _ _ _ us hl => match us, hl with | [_, _], _ => rfl)
    have O_order := own_of F_order m_order (ok_order (P := P) (w := w) (mg := mg) (base := base) F_order) (fun _ _ _ _ _ _ us hl => match us, hl with | [_, _], _ => rfl)
    have O__law_before := own_of F__law_before m__law_before (ok_before (P := P) (w := w) (base := base) F__law_before g_int) (fun _ _ _ _ _ _ us hl => match us, hl with | [_, _], _ => rfl)
    have O__law_pull := own_of F__law_pull m__law_pull (ok_pull (P := P) (w := w) (base := base) F__law_pull g_len) (fun _ _ _ _ _ _ us hl => match us, hl with | [_, _], _ => rfl)
    have O__law_any := own_of F__law_any m__law_any (ok_any F__law_any O__law_pull) (fun _ _ _ _ _ _ us hl => match us, hl with | [_], _ => rfl)
    have O__law_bag := own_of F__law_bag m__law_bag (ok_bag (P := P) (w := w) (base := base) F__law_bag g_len g_list) (fun _ _ _ _ _ _ us hl => match us, hl with | [_], _ => rfl)
    have O_fraction_text := own_of F_fraction_text m_fraction_text (ok_ftext (P := P) (w := w) (mg := mg) (base := base) F_fraction_text) (fun _ _ _ _ _ _ us hl => match us, hl with | [_], _ => rfl)
    have O__law_same := own_of F__law_same m__law_same (ok_same (P := P) (w := w) (base := base) F__law_same m__law_same g_len g_isinstance g_bool g_int g_str g_list g_tuple g_all g_range 3) (fun _ _ _ _ _ _ us hl => match us, hl with | [_, _], _ => rfl)
    have Ff := ok_frac F_fraction O_common_part Er
    have O_fraction : OwnX P w K mg base 3 "fraction" ["top", "bottom"] [] (spFrac (He.ga K "Nought")) := ⟨_, _, ds1, Ff, m_fraction, F_fraction.kp, v1, b1⟩
    have O_fraction1 : OwnX P w K mg base 3 "fraction" ["top", "bottom"] [.int 1] (spFrac (He.ga K "Nought")) := ⟨_, _, ds2, Ff, m_fraction, F_fraction.kp, v2, b2⟩
    have O_plus := own_of F_plus m_plus (ok_plus F_plus O_fraction) (fun _ _ _ _ _ _ us hl => match us, hl with | [_, _], _ => rfl)
    have O_less := own_of F_less m_less (ok_less F_less O_fraction) (fun _ _ _ _ _ _ us hl => match us, hl with | [_, _], _ => rfl)
    have O_times := own_of F_times m_times (ok_times F_times O_fraction) (fun _ _ _ _ _ _ us hl => match us, hl with | [_, _], _ => rfl)
    have O_middle := own_of F_middle m_middle (ok_middle F_middle O_plus O_times) (fun _ _ _ _ _ _ us hl => match us, hl with | [_, _], _ => rfl)
    refine L2.fn_of lk hcd scLaw (fun vs H Q E h => ?_) (fun A outer s H vs Q E hr h => law_body hr O__law_bag O__law_any O__law_low O__law_same O_fraction O_fraction1 O_plus O_less O_times O_middle O_order O__law_before O_fraction_text m__law_tried kpT lkT hcdT bT ct TB g_range g_str ⟨_, m_FAR, ⟨tF, rfl⟩⟩ wc h)
    obtain ⟨a, ns, rfl, _⟩ := h
    rfl
end Hs
open PySem PySem.W PySem.Calls PyProof.Rows
theorem PySem.Challenge.cw_hueshade_k07_fractions_holds : PySem.Challenge.rw_hueshade_k07_fractions.Holds := by
  w_on; o_law
  refine HandSHeadRun.head_any (r := OpenLaw.row PySem.Challenge.rw_hueshade_k07_fractions) (q := view (OpenLaw.row PySem.Challenge.rw_hueshade_k07_fractions).prog [28]) (H := Hs.hk) (ob := Hs.ob) (M := 5000) (loose := Hs.others) (d := HandSHeadRun.topDef (OpenLaw.row PySem.Challenge.rw_hueshade_k07_fractions).prog 28) (kwd := []) Hs.ob_eq
    (by kernel_rfl) (fun s => by kernel_rfl) Hs.run (by kernel_rfl) (by kernel_rfl) (by kernel_rfl) (by rfl) (by first | assumption | decide +kernel) (by decide +kernel) ⟨rfl, rfl, rfl, rfl, rfl, by decide +kernel⟩ ?hw ?hc
  case hw => w_witness2
  case hc =>
    refine LamX.walk_ofTsE (l := PySem.Challenge.rw_hueshade_k07_fractions) (n := 63) (k := 6) (x := "_law_script") (CX := fun _ => L2.CX0) rfl (by decide) (by kernel_rfl) ⟨rfl, by decide, by decide⟩ ?F (fun _ _ _ _ _ z => z)
    intro w mg fa h Y G hmg0
    obtain ⟨K, KX, c⟩ := Y
    have hmg : mg ("law" : PySem.Str) = some (.ref fa) := by
      have e : (HandSHeadRun.topDef (OpenLaw.row PySem.Challenge.rw_hueshade_k07_fractions).prog 28).name = ("law" : PySem.Str) := by kernel_rfl
      rw [← e]
      exact hmg0
    obtain ⟨fd, cc, pt, h1, h2, h3, hb, hF⟩ := Hs.facts (P := (PySem.Challenge.rw_hueshade_k07_fractions).prog) (w := w) (by kernel_rfl) (by kernel_rfl) KX G hmg c
    refine ⟨K, KX, fd, [(cc, pt)], Hs.spLaw K [(pt, Hs.lamQ)], fun p hp => ?_, fun p hp => ?_, fun p hp => ?_, hb, fun H a ns hl _ hT hS => ⟨a, ns, rfl, hS, hl, fun p hp => ?_, fun _ => rfl⟩, fun base _ _ hB => hF base (hB (cc, pt) (List.mem_singleton.mpr rfl))⟩
    · rw [List.mem_singleton.mp hp]
      exact h1
    · rw [List.mem_singleton.mp hp]
      exact h2
    · rw [List.mem_singleton.mp hp]
      exact h3
    · rw [List.mem_singleton.mp hp]
      exact LamX.TabS.nil (hT (cc, pt) (List.mem_singleton.mpr rfl))
