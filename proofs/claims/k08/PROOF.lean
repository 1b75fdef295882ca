import PyProof.Rows.All
import Wide.All
import OpenK.AllK
import Wide.FinOn
import HandS.ForMost
import HandS.ForExc
import HandS.Wide
import HandS.IsInst
import HandS.Lambda
import HandS.Defaults
import HandS.Evl
import HandS.Codes
import HandS.Style
import HandS.More
import HandS.FStr
import HandS.TryMany
import HandS.ExcField
import HandS.NoneIn
import HandS.ExcInit
import HandS.ExcSuper
import KE.KExcSuper
import HandS.Nested
import HandS.Head0
import HandS.Head1
import HandS.Head2
import HandS.HeadEnd
import HandS.HeadHook1
import HandS.HeadHook2
import HandS.HeadHook3
import HandS.HeadHook4
import HandS.HeadWalk
import PySem.Challenge.RW_hueshade_k08_lights_and_sifts
set_option Elab.async false
set_option linter.all false
set_option maxRecDepth 100000
set_option maxHeartbeats 0
namespace Hs
/-! ### fractions in lowest terms -/
/-- the common part, with the sign of the bottom -/
def sg (a b : Int) : Int := if b < 0 then -(Int.gcd a b : Int) else (Int.gcd a b : Int)
def low (a b : Int) : Int × Int := (a.fdiv (sg a b), b.fdiv (sg a b))
theorem gcd_pos {a b : Int} (h : b ≠ 0) : 0 < Int.gcd a b := Int.gcd_pos_of_ne_zero_right a h
theorem sg_ne {a b : Int} (h : b ≠ 0) : sg a b ≠ 0 := by
  have := gcd_pos (a := a) h
  unfold sg
  split <;> omega
theorem sg_abs {a b : Int} : (sg a b).natAbs = Int.gcd a b := by
  unfold sg
  split <;> omega
theorem sg_dvd_left (a b : Int) : sg a b ∣ a := by
  unfold sg
  split
  · exact Int.neg_dvd.mpr (Int.gcd_dvd_left ..)
  · exact Int.gcd_dvd_left ..
theorem sg_dvd_right (a b : Int) : sg a b ∣ b := by
  unfold sg
  split
  · exact Int.neg_dvd.mpr (Int.gcd_dvd_right ..)
  · exact Int.gcd_dvd_right ..
theorem low_1 (a b : Int) : a = sg a b * (low a b).1 := by
  have h := sg_dvd_left a b
  show a = sg a b * a.fdiv (sg a b)
  rw [Int.fdiv_eq_ediv_of_dvd h, Int.mul_ediv_cancel' h]
theorem low_2 (a b : Int) : b = sg a b * (low a b).2 := by
  have h := sg_dvd_right a b
  show b = sg a b * b.fdiv (sg a b)
  rw [Int.fdiv_eq_ediv_of_dvd h, Int.mul_ediv_cancel' h]
theorem low_of {a b g x y : Int} (h : b ≠ 0) (hg : sg a b = g) (ha : a = g * x) (hb : b = g * y) : low a b = (x, y) := by
  have h1 := low_1 a b
  have h2 := low_2 a b
  have hn : g ≠ 0 := by
    rw [← hg]
    exact sg_ne h
  rw [hg] at h1 h2
  have e1 : (low a b).1 = x := Int.eq_of_mul_eq_mul_left hn (h1.symm.trans ha)
  have e2 : (low a b).2 = y := Int.eq_of_mul_eq_mul_left hn (h2.symm.trans hb)
  rw [← e1, ← e2]
theorem low_pos {a b : Int} (h : b ≠ 0) : 0 < (low a b).2 := by
  have h2 := low_2 a b
  have hp := gcd_pos (a := a) h
  by_cases hb : b < 0
  · have e : sg a b = -(Int.gcd a b : Int) := if_pos hb
    rw [e] at h2
    apply Decidable.byContradiction
    intro hn
    have : 0 ≤ -(Int.gcd a b : Int) * (low a b).2 := by
      have := Int.mul_nonneg_of_nonpos_of_nonpos (a := -(Int.gcd a b : Int)) (b := (low a b).2) (by omega) (by omega)
      exact this
    omega
  · have e : sg a b = (Int.gcd a b : Int) := if_neg hb
    rw [e] at h2
    apply Decidable.byContradiction
    intro hn
    have : (Int.gcd a b : Int) * (low a b).2 ≤ 0 := Int.mul_nonpos_of_nonneg_of_nonpos (by omega) (by omega)
    omega
theorem low_b1 {a b : Int} (h : b ≠ 0) : (low a b).1.natAbs ≤ a.natAbs := by
  have h1 := congrArg Int.natAbs (low_1 a b)
  rw [Int.natAbs_mul, sg_abs] at h1
  rw [h1]
  exact Nat.le_mul_of_pos_left _ (gcd_pos h)
theorem low_b2 {a b : Int} (h : b ≠ 0) : (low a b).2.natAbs ≤ b.natAbs := by
  have h1 := congrArg Int.natAbs (low_2 a b)
  rw [Int.natAbs_mul, sg_abs] at h1
  have h2 := Nat.le_mul_of_pos_left (low a b).2.natAbs (gcd_pos (a := a) h)
  omega
theorem sg_mul {k a b : Int} (hk : k ≠ 0) (h : b ≠ 0) : sg (k * a) (k * b) = k * sg a b := by
  unfold sg
  rw [Int.gcd_mul_left, Int.natCast_mul]
  by_cases h1 : 0 < k
  · have e : (k.natAbs : Int) = k := by omega
    rw [e]
    by_cases h2 : b < 0
    · have : k * b < 0 := Int.mul_neg_of_pos_of_neg h1 h2
      rw [if_pos this, if_pos h2, Int.mul_neg]
    · have : 0 ≤ k * b := Int.mul_nonneg (by omega) (by omega)
      rw [if_neg (by omega), if_neg h2]
  · have e : (k.natAbs : Int) = -k := by omega
    rw [e]
    by_cases h2 : b < 0
    · have : 0 ≤ k * b := Int.mul_nonneg_of_nonpos_of_nonpos (by omega) (by omega)
      rw [if_neg (by omega), if_pos h2, Int.mul_neg, Int.neg_mul]
    · have : k * b < 0 := Int.mul_neg_of_neg_of_pos (by omega) (by omega)
      rw [if_pos this, if_neg h2, Int.neg_mul, Int.neg_neg]
theorem low_scale {k a b : Int} (hk : k ≠ 0) (h : b ≠ 0) : low (k * a) (k * b) = low a b := by
  have hkb : k * b ≠ 0 := Int.mul_ne_zero hk h
  refine low_of hkb (sg_mul hk h) ?_ ?_
  · rw [Int.mul_assoc]
    exact congrArg (k * ·) (low_1 a b)
  · rw [Int.mul_assoc]
    exact congrArg (k * ·) (low_2 a b)
theorem low_one (a : Int) : low a 1 = (a, 1) := by
  have e : sg a 1 = 1 := by
    unfold sg
    rw [if_neg (by decide), Int.gcd_one_right] <;> rfl
  exact low_of (by decide) e (by omega) (by omega)
/-- the middle: the half of a sum in lowest terms -/
theorem low_half {x y : Int} (h : y ≠ 0) : low ((low x y).1 * 1) ((low x y).2 * 2) = low x (2 * y) := by
  have h1 := low_1 x y
  have h2 := low_2 x y
  have hp := low_pos (a := x) h
  have e : low x (2 * y) = low (sg x y * ((low x y).1 * 1)) (sg x y * ((low x y).2 * 2)) := by
    congr 1
    · rw [Int.mul_one]
      exact h1
    · rw [← Int.mul_assoc, ← h2, Int.mul_comm]
  rw [e]
  exact (low_scale (sg_ne h) (by omega)).symm
end Hs
namespace Hs
open PySem PySem.Spec PyProof.Rows L2 Evl
/-! ### own words -/
/-- // by any divisor but nought, below 2 ^ 9000 -/
def CDivG (_ j : Int) : Prop := j ≠ 0 ∧ j.natAbs.log2 < 9000
theorem op_fdivG {X : Cx} : OpR X (binaryOp .FloorDiv) (rI CDivG fun i j => .int (i.fdiv j)) := opI fun i j _ _ _ _ _ hc q => floordiv_int hc.1 q (.inl (PyProof.noPylong_of_log2 hc.2))
theorem divG {i j : Int} {b : Nat} (h : j ≠ 0) (hb : j.natAbs < 2 ^ b) (h0 : 0 < b) (h9 : b ≤ 9000) : CDivG i j := ⟨h, Nat.lt_of_lt_of_le (PySem.Flt.log2_lt_of h0 hb) h9⟩
theorem mul64 {i j : Int} (ha : i.natAbs < 2 ^ 64) (hb : j.natAbs < 2 ^ 64) : CMulW i j := wide_mul ha hb (by decide) (by decide) (by decide)
theorem modP {i j : Int} (h : 0 < j) : 0 ≤ i.fmod j ∧ i.fmod j < j := by
  rw [Int.fmod_eq_emod_of_nonneg i (Int.le_of_lt h)]
  exact ⟨Int.emod_nonneg i (by omega), Int.emod_lt_of_pos i h⟩
/-- an own def by its promise -/
structure Own (P : Program) (w : World) (K : PySem.W.Frag) (mg : Str → Option Value) (base : Heap) (k : Nat) (x : Str) (ps : List Str) (sp : Sp) : Prop where
  ex : ∃ (f : Addr) (fd : FuncData), FnOk P w K mg base CX0 k f fd ps sp ∧ mg x = some (.ref f) ∧ PySem.W.keepIn K (.ref f) = true ∧ Binds K fd ps []
theorem pe_own {X : Cx} {k j : Nat} {x : Str} {ps : List Str} {sp : Sp} {e : Expr} {es : List Expr} {t : TA} {p pos : Pos} (O : Own X.prog X.w X.K X.mg X.base k x ps sp) (hr : Room j X.A) (hk : k ≤ j) (hg : Gl X x) (ha : PA X (e :: es) t)
    (hdb : (x == ("__debug__" : Str)) = false := by decide) (he : starEach (e :: es) X.env = (false, eval e X.env) :: starEach es X.env := by rfl) (hpl : (backTo pos (starEach es X.env)).any (·.1) = false := by rfl) :
    PE X (.Call (.Name x p) (e :: es) [] pos) (tCall sp [] E0 t) := by
  obtain ⟨f, fd, F, m, kp, b⟩ := O.ex
  exact pe_call F (hr.mono hk) hg m kp b .nil pass0 ha hdb he hpl
abbrev FnP (K : PySem.W.Frag) (x : Str) (st : Stmt) (f : Addr) (fd : FuncData) : Prop := FunD K x x (defArgs st) (defBody st) (defScope st) [] [] f fd
theorem own_of {P : Program} {w : World} {K : PySem.W.Frag} {mg : Str → Option Value} {base : Heap} {k : Nat} {x : Str} {ps : List Str} {sp : Sp} {st : Stmt} {f : Addr} {fd : FuncData} (F : FnP K x st f fd) (m : mg x = some (.ref f)) (G : FnOk P w K mg base CX0 k f fd ps sp)
    (h : ∀ (kV doc pm : Value) (an : Option Addr) (cdv ct : Value) (us : List Value), us.length = ps.length → bindArgs (PySem.W.fnOf x x (defArgs st) (defBody st) (defScope st) .none kV doc pm an cdv ct) ⟨us, []⟩ = pure (ps.zip us)) : Own P w K mg base k x ps sp :=
  ⟨f, fd, G, m, F.kp, F.bindsN h⟩
theorem ev_ix {K : PySem.W.Frag} {σ : L2.St} {H : Hp} {b : Addr} {xs : List V} {i : Int} {v : V} {j : Nat} (hs : σ[j]? = some (some (.ref b))) (hb : H b = some (.lst xs)) (ha : atI xs i = some v) : Ev (tOp (rIxL K) (tVar j) (tC (.int i))) σ H v :=
  ev_op (ev_var hs) ev_c (rv_ixL (sq_of hb) ha)
theorem ev_ixt {K : PySem.W.Frag} {σ : L2.St} {H : Hp} {b : Addr} {xs : List V} {i : Int} {v : V} {j : Nat} (hs : σ[j]? = some (some (.ref b))) (hb : SqT K H b xs) (ha : atI xs i = some v) : Ev (tOp (rIxT K) (tVar j) (tC (.int i))) σ H v :=
  ev_op (ev_var hs) ev_c (rv_ixT hb ha)
theorem ite_T {c : Bool} {A B : Prop} (hc : c = true) (h : A) : if c = true then A else B := by
  rw [if_pos hc]
  exact h
theorem ite_F {c : Bool} {A B : Prop} (hc : c = false) (h : B) : if c = true then A else B := by
  rw [hc, if_neg Bool.false_ne_true]
  exact h
/-! ### the bag that draws -/
structure BagAt (H : Hp) (b l : Addr) (ns : List Int) (n : Nat) : Prop where
  ex : ∃ (i : Nat) (z s : Int) (c : Nat), H b = some (.lst [.ref l, .int i, .int z, .int s, .int c]) ∧ i ≤ ns.length ∧ 0 ≤ s ∧ s < 2147483647 ∧ c ≤ n
  ls : H l = some (.lst (ns.map V.int))
  ne : b ≠ l
/-- all but the object at b stays -/
def But (H H' : Hp) (b : Addr) : Prop := ∀ a o, H a = some o → a ≠ b → H' a = some o
theorem But.refl {H : Hp} {b : Addr} : But H H b := fun _ _ e _ => e
theorem But.trans {H H1 H2 : Hp} {b : Addr} (x : But H H1 b) (y : But H1 H2 b) : But H H2 b := fun a o e n => y a o (x a o e n) n
theorem But.ex {H H1 H2 : Hp} {b : Addr} (x : But H H1 b) (y : Ex H1 H2) : But H H2 b := fun a o e n => y a o (x a o e n)
theorem But.of {H H1 : Hp} {b : Addr} (y : Ex H H1) : But H H1 b := fun a o e _ => y a o e
theorem But.upd {H H1 : Hp} {b : Addr} {u : HO} (x : But H H1 b) : But H (upd H1 b u) b := fun a o e n => by
  rw [upd_ne n]
  exact x a o e n
theorem BagAt.ext {H H1 : Hp} {b l : Addr} {ns : List Int} {n m : Nat} (B : BagAt H b l ns n) (e : Ex H H1) (h : n ≤ m) : BagAt H1 b l ns m := by
  obtain ⟨⟨i, z, s, c, h1, h2, h3, h4, h5⟩, h6, h7⟩ := B
  exact ⟨⟨i, z, s, c, e _ _ h1, h2, h3, h4, Nat.le_trans h5 h⟩, e _ _ h6, h7⟩
def spPull : Sp := fun vs H Q _ => ∃ (b l : Addr) (ns : List Int) (n : Nat) (many : Int), vs = [.ref b, .int many] ∧ BagAt H b l ns n ∧ n < 1000000 ∧ 0 < many ∧ many < 2 ^ 200 ∧
  ∀ (v : Int) (H' : Hp), 0 ≤ v → v < many → BagAt H' b l ns (n + 1) → But H H' b → Q (.int v) H'
def spBag (K : PySem.W.Frag) : Sp := fun vs H Q _ => ∃ (a : Addr) (ns : List Int), vs = [.ref a] ∧ SqL K H a (ns.map V.int) ∧ ns.length ≤ 63 ∧
  ∀ (b l : Addr) (H' : Hp), H b = none → H l = none → BagAt H' b l ns 0 → Ex H H' → Q (.ref b) H'
end Hs
namespace Hs
open PySem
def top (i : Nat) : Stmt := PySem.Challenge.pw_hueshade_k08_lights_and_sifts.main.body.getD i (.Pass ⟨0, 0, 0, 0⟩)
end Hs
namespace Hs
open PySem PySem.Spec PyProof.Rows L2 Evl
section
variable {P : Program} {w : World} {K : PySem.W.Frag} {mg : Str → Option Value} {base : Heap} {f : Addr} {fd : FuncData}
abbrev sPull : Stmt := top 19
theorem scPull : FnScope ["_law_bag_here", "_law_many", "_law_cell", "_law_got", "_law_wider"] ["_law_bag_here", "_law_many"] (defScope sPull) := ⟨rfl, rfl, rfl, by decide +kernel, rfl, by decide +kernel, by decide +kernel⟩
theorem ok_pull (F : FnP K "_law_pull" sPull f fd) (g_len : mg "len" = none) : FnOk P w K mg base CX0 1 f fd ["_law_bag_here", "_law_many"] spPull := by
  have nd := scPull.nd
  refine F.ok scPull (fun vs H Q E h => ?_) (fun cdv A outer s H vs Q E hr h => ⟨_, PSs.nox (Evl.pss_cut (ps_if (PW.pt (pw_and (pt_cmpR op_eq (pe_ix (r := rIxL K) ix_list (pv 0) pe_int (fun _ _ => rfl)) pe_int (nomark _)) (pw_and1 (pt_cmpR op_lt (pe_ix (r := rIxL K) ix_list (pv 0) pe_int (fun _ _ => rfl)) (pe_callB (r := Evl.rLenS K) call_len_seq (by rfl) g_len PySem.boot_len (pa_cons (pe_ix (r := rIxL K) ix_list (pv 0) pe_int (fun _ _ => rfl)) pa_nil)) (nomark _))))) (pss_cons (ps_set (i := 2) nd rfl (.inl rfl) (pe_ix (r := rIxL K) ix_list (pe_ix (r := rIxL K) ix_list (pv 0) pe_int (fun _ _ => rfl)) (pe_ix (r := rIxL K) ix_list (pv 0) pe_int (fun _ _ => rfl)) (fun _ _ => rfl)))
  (pss_cons (ps_asg (pe_op op_add (pe_ix (r := rIxL K) ix_list (pv 0) pe_int (fun _ _ => rfl)) pe_int) (pg_sub (pv 0) pe_int set_list))
  (pss_one (ps_if (pt_cmpR op_ge (pv 2) (pe_op op_pow pe_int pe_int) (nomark _)) (pss_one (ps_asg (pv 2) (pg_sub (pv 0) pe_int set_list))) (pss_one (ps_asg (pe_op op_modN (pe_op op_add (pe_op op_add (pe_op op_mulW (pe_ix (r := rIxL K) ix_list (pv 0) pe_int (fun _ _ => rfl)) pe_int) (pe_op op_modN (pv 2) pe_int)) pe_int) pe_int) (pg_sub (pv 0) pe_int set_list))))))) pss_nil)
  (pss_cons (ps_if (pt_cmpR op_gt (pe_ix (r := rIxL K) ix_list (pv 0) pe_int (fun _ _ => rfl)) pe_int (nomark _)) (pss_cons (ps_set (i := 3) nd rfl (.inl rfl) (pe_op op_modN (pe_ix (r := rIxL K) ix_list (pv 0) pe_int (fun _ _ => rfl)) (pv 1)))
  (pss_cons (ps_asg (pe_op Hs.op_fdivG (pe_ix (r := rIxL K) ix_list (pv 0) pe_int (fun _ _ => rfl)) (pv 1)) (pg_sub (pv 0) pe_int set_list))
  (pss_one (ps_ret (pv 3))))) pss_nil)
  (pss_cons (ps_asg (pe_op op_add (pe_ix (r := rIxL K) ix_list (pv 0) pe_int (fun _ _ => rfl)) pe_int) (pg_sub (pv 0) pe_int set_list))
  (pss_cons (ps_set (i := 4) nd rfl (.inl rfl) (pe_op op_add (pe_op op_mulW (pe_ix (r := rIxL K) ix_list (pv 0) pe_int (fun _ _ => rfl)) (pe_ix (r := rIxL K) ix_list (pv 0) pe_int (fun _ _ => rfl))) (pe_op op_mulW (pe_op op_mulW pe_int (pe_ix (r := rIxL K) ix_list (pv 0) pe_int (fun _ _ => rfl))) (pe_op op_add (pe_op op_modN (pe_ix (r := rIxL K) ix_list (pv 0) pe_int (fun _ _ => rfl)) pe_int) pe_int))))
  (pss_cons (ps_asg (pe_op op_modN (pe_op op_add (pe_op op_add (pv 4) (pe_op op_mulW (pe_op op_mulW (pe_ix (r := rIxL K) ix_list (pv 0) pe_int (fun _ _ => rfl)) (pe_ix (r := rIxL K) ix_list (pv 0) pe_int (fun _ _ => rfl))) (pe_ix (r := rIxL K) ix_list (pv 0) pe_int (fun _ _ => rfl)))) pe_int) pe_int) (pg_sub (pv 0) pe_int set_list))
  (pss_one (ps_ret (pe_op op_modN (pe_op op_add (pe_op Hs.op_fdivG (pe_ix (r := rIxL K) ix_list (pv 0) pe_int (fun _ _ => rfl)) pe_int) (pe_op op_mulW (pe_op op_modN (pe_ix (r := rIxL K) ix_list (pv 0) pe_int (fun _ _ => rfl)) pe_int) pe_int)) (pv 1))))))))), ?_⟩)
  · obtain ⟨b, l, ns, n, many, rfl, _⟩ := h
    rfl
  · obtain ⟨b, l, ns, n, many, rfl, B, hn, hm, hm2, k⟩ := h
    obtain ⟨⟨i, z, s0, c, hb, hi, h0, h1, hc⟩, hl, ne⟩ := B
    refine q_cut (M := fun σ' H' => ∃ v2, σ' = [some (.ref b), some (.int many), v2, none, none] ∧ H' l = some (.lst (ns.map V.int)) ∧ But H H' b ∧ ∃ (i : Nat) (z s : Int), H' b = some (.lst [.ref l, .int i, .int z, .int s, .int c]) ∧ i ≤ ns.length ∧ 0 ≤ s ∧ s < 2147483647) ?_ ?_
    · refine s_when (et_and (et_test (ev_op (ev_ix rfl hb rfl) ev_c (rv_eq rfl))) fun _ => et_test (ev_op (ev_ix rfl hb rfl) (ev_len (ev_ix rfl hb rfl) (sq_of hl)) rv_I0)) (fun ht H1 e1 => ?_) (fun ht H1 e1 => ?_)
      · have hlt : (i : Int) < ((ns.map V.int).length : Int) := by
          rw [Bool.and_eq_true] at ht
          exact of_decide_eq_true ht.2
        rw [List.length_map] at hlt
        have hit : i < ns.length := by omega
        have hg : (ns.map V.int)[i]? = some (V.int ns[i]) := by
          rw [List.getElem?_map, List.getElem?_eq_getElem hit] <;> rfl
        refine q_asg (ev_op (ev_ix rfl (e1 _ _ hb) rfl) (ev_ix rfl (e1 _ _ hb) rfl) (rv_ixL (sq_of (e1 _ _ hl)) (atI_nat hg))) fun H2 e2 => ?_
        have e12 := e1.trans e2
        refine q_setL (j := 1) (e12 _ _ hb) (ev_op (ev_ix rfl (e12 _ _ hb) rfl) ev_c rv_I0) (ev_var rfl) ev_c (by simp) fun H3 e3 => ?_
        have hb3 : (upd H3 b (.lst [.ref l, .int ((i : Int) + 1), .int z, .int s0, .int c])) b = some (.lst [.ref l, .int ((i + 1 : Nat) : Int), .int z, .int s0, .int c]) := upd_same
        have hl3 : (upd H3 b (.lst [.ref l, .int ((i : Int) + 1), .int z, .int s0, .int c])) l = some (.lst (ns.map V.int)) := by
          rw [upd_ne (Ne.symm ne)]
          exact (e12.trans e3) _ _ hl
        have bt3 : But H (upd H3 b (.lst [.ref l, .int ((i : Int) + 1), .int z, .int s0, .int c])) b := But.upd (.of (e12.trans e3))
        refine s_if (et_test (ev_op (ev_var rfl) (ev_op ev_c ev_c (rv_I ⟨by decide, by decide, by decide⟩)) rv_I0)) (fun ht2 H4 e4 => ?_) (fun ht2 H4 e4 => ?_)
        · refine s_setL (j := 2) (e4 _ _ hb3) (ev_var rfl) (ev_var rfl) ev_c (by simp) fun H5 e5 => ?_
          refine ⟨_, rfl, ?_, But.upd ((bt3.ex e4).ex e5), i + 1, ns[i], s0, upd_same, hit, h0, h1⟩
          rw [upd_ne (Ne.symm ne)]
          exact (e4.trans e5) _ _ hl3
        · refine s_setL (j := 3) (e4 _ _ hb3) (ev_op (ev_op (ev_op (ev_op (ev_ix rfl (e4 _ _ hb3) rfl) ev_c (rv_I (mul64 (by omega) (by decide)))) (ev_op (ev_var rfl) ev_c (rv_I (show (2147483563 : Int) ≠ 0 by decide))) rv_I0) ev_c rv_I0) ev_c (rv_I (show (2147483629 : Int) ≠ 0 by decide))) (ev_var rfl) ev_c (by simp) fun H5 e5 => ?_
          have hp := modP (i := s0 * 40503 + (ns[i]).fmod 2147483563 + 1) (j := 2147483629) (by decide)
          refine ⟨_, rfl, ?_, But.upd ((bt3.ex e4).ex e5), i + 1, z, _, upd_same, hit, hp.1, by omega⟩
          rw [upd_ne (Ne.symm ne)]
          exact (e4.trans e5) _ _ hl3
      · exact ⟨none, rfl, e1 _ _ hl, .of e1, i, z, s0, e1 _ _ hb, hi, h0, h1⟩
    · rintro σ' H1 ⟨v2, rfl, hl1, bt1, i, z, s0, hb1, hi, h0, h1⟩
      refine q_when (et_test (ev_op (ev_ix rfl hb1 rfl) ev_c rv_I0)) (fun ht H2 e2 => ?_) (fun ht H2 e2 => ?_)
      · refine q_asg (ev_op (ev_ix rfl (e2 _ _ hb1) rfl) (ev_var rfl) (rv_I (show many ≠ 0 by omega))) fun H3 e3 => ?_
        have e23 := e2.trans e3
        refine q_setL (j := 2) (e23 _ _ hb1) (ev_op (ev_ix rfl (e23 _ _ hb1) rfl) (ev_var rfl) (rv_I (divG (b := 200) (by omega) (by omega) (by decide) (by decide)))) (ev_var rfl) ev_c (by simp) fun H4 e4 => ?_
        have hp := modP (i := z) (j := many) hm
        refine s_ret (ev_var rfl) fun H5 e5 => k _ _ hp.1 hp.2 ?_ ((But.upd (bt1.ex (e23.trans e4))).ex e5)
        refine BagAt.ext (n := n + 1) ⟨⟨i, _, s0, c, upd_same, hi, h0, h1, by omega⟩, ?_, ne⟩ e5 (Nat.le_refl _)
        rw [upd_ne (Ne.symm ne)]
        exact (e23.trans e4) _ _ hl1
      · refine q_setL (j := 4) (e2 _ _ hb1) (ev_op (ev_ix rfl (e2 _ _ hb1) rfl) ev_c rv_I0) (ev_var rfl) ev_c (by simp) fun H3 e3 => ?_
        have hb3 : (upd H3 b (.lst [.ref l, .int i, .int z, .int s0, .int ((c : Int) + 1)])) b = some (.lst [.ref l, .int i, .int z, .int s0, .int ((c : Int) + 1)]) := upd_same
        have hl3 : (upd H3 b (.lst [.ref l, .int i, .int z, .int s0, .int ((c : Int) + 1)])) l = some (.lst (ns.map V.int)) := by
          rw [upd_ne (Ne.symm ne)]
          exact (e2.trans e3) _ _ hl1
        have bt3 : But H (upd H3 b (.lst [.ref l, .int i, .int z, .int s0, .int ((c : Int) + 1)])) b := But.upd (bt1.ex (e2.trans e3))
        have hp1 := modP (i := s0) (j := 8191) (by decide)
        refine q_asg (ev_op (ev_op (ev_ix rfl hb3 rfl) (ev_ix rfl hb3 rfl) (rv_I (mul64 (by omega) (by omega)))) (ev_op (ev_op ev_c (ev_ix rfl hb3 rfl) (rv_I (mul64 (by decide) (by omega)))) (ev_op (ev_op (ev_ix rfl hb3 rfl) ev_c (rv_I (show (8191 : Int) ≠ 0 by decide))) ev_c rv_I0) (rv_I (mul64 (by omega) (by omega)))) rv_I0) fun H4 e4 => ?_
        have hcc : ((c : Int) + 1) * ((c : Int) + 1) ≤ 1000000 * 1000000 := Int.mul_le_mul (by omega) (by omega) (by omega) (by decide)
        have hcd : 0 ≤ ((c : Int) + 1) * ((c : Int) + 1) := Int.mul_nonneg (by omega) (by omega)
        refine q_setL (j := 3) (e4 _ _ hb3) (ev_op (ev_op (ev_op (ev_var rfl) (ev_op (ev_op (ev_ix rfl (e4 _ _ hb3) rfl) (ev_ix rfl (e4 _ _ hb3) rfl) (rv_I (mul64 (by omega) (by omega)))) (ev_ix rfl (e4 _ _ hb3) rfl) (rv_I (mul64 (by omega) (by omega)))) rv_I0) ev_c rv_I0) ev_c (rv_I (show (2147483629 : Int) ≠ 0 by decide))) (ev_var rfl) ev_c (by simp) fun H5 e5 => ?_
        generalize hs' : Int.fmod _ 2147483629 = s1
        have hs1 : 0 ≤ s1 ∧ s1 < 2147483629 := by
          rw [← hs']
          exact modP (by decide)
        have hp2 := modP (i := s1) (j := 7919) (by decide)
        refine s_ret (ev_op (ev_op (ev_op (ev_ix rfl upd_same rfl) ev_c (rv_I (divG (b := 64) (by decide) (by decide) (by decide) (by decide)))) (ev_op (ev_op (ev_ix rfl upd_same rfl) ev_c (rv_I (show (7919 : Int) ≠ 0 by decide))) ev_c (rv_I (mul64 (by omega) (by decide)))) rv_I0) (ev_var rfl) (rv_I (show many ≠ 0 by omega))) fun H6 e6 => ?_
        have hp := modP (i := s1.fdiv 71 + s1.fmod 7919 * 37) (j := many) hm
        refine k _ _ hp.1 hp.2 ?_ ((But.upd (bt3.ex (e4.trans e5))).ex e6)
        refine BagAt.ext (n := n + 1) ⟨⟨i, z, s1, c + 1, upd_same, hi, hs1.1, by omega, by omega⟩, ?_, ne⟩ e6 (Nat.le_refl _)
        rw [upd_ne (Ne.symm ne)]
        exact (e4.trans e5) _ _ hl3
end
end Hs
namespace Hs
open PySem PySem.Spec PyProof.Rows L2 Evl
theorem cut63 {xs : List V} (h : xs.length ≤ 63) : cutV xs none (some 63) = xs := by
  have e1 : HT.sIx xs.length 0 none = 0 := rfl
  have e2 : HT.sIx xs.length xs.length (some 63) = xs.length := by
    show min (63 : Int).toNat xs.length = xs.length
    omega
  unfold cutV
  rw [e1, e2, List.drop_zero, Nat.sub_zero, List.take_length]
section
variable {P : Program} {w : World} {K : PySem.W.Frag} {mg : Str → Option Value} {base : Heap} {f : Addr} {fd : FuncData}
abbrev sBag : Stmt := top 18
theorem scBag : FnScope ["_law_script", "_law_salt", "_law_cell"] ["_law_script"] (defScope sBag) := ⟨rfl, rfl, rfl, by decide +kernel, rfl, by decide +kernel, by decide +kernel⟩
theorem ok_bag (F : FnP K "_law_bag" sBag f fd) (g_len : mg "len" = none) (g_list : mg "list" = none) : FnOk P w K mg base CX0 1 f fd ["_law_script"] (spBag K) := by
  have nd := scBag.nd
  refine F.ok scBag (fun vs H Q E h => ?_) (fun cdv A outer s H vs Q E hr h => ⟨_, PSs.nox (pss_cons (ps_set (i := 1) nd rfl (.inl rfl) (pe_op op_add pe_int (pe_callB (r := Evl.rLenS K) call_len_seq (by rfl) g_len PySem.boot_len (pa_cons (pe_slice sl_list (pv 0) po_none (po_some pe_int)) pa_nil))))
  (pss_cons (ps_for PassesOwn.never rfl (pi_list (pe_slice sl_list (pv 0) po_none (po_some pe_int))) (pg_name (i := 2) nd rfl (.inl rfl)) (pss_one (ps_set (i := 1) nd rfl (.inl rfl) (pe_op op_modN (pe_op op_add (pe_op op_add (pe_op op_mulW (pv 1) pe_int) (pe_op op_modN (pv 2) pe_int)) pe_int) pe_int))))
  (pss_one (ps_ret (pe_lst (pa_cons (pe_callTy (r := Evl.rListS K) call_list_of (by rfl) g_list (by decide +kernel) (pa_cons (pe_slice sl_list (pv 0) po_none (po_some pe_int)) pa_nil)) (pa_cons pe_int (pa_cons pe_int (pa_cons (pv 1) (pa_cons pe_int pa_nil)))))))))), ?_⟩)
  · obtain ⟨a, ns, rfl, _⟩ := h
    rfl
  · obtain ⟨a, ns, rfl, hS, hl, k⟩ := h
    have hl2 : (ns.map V.int).length ≤ 63 := by rw [List.length_map]; exact hl
    have sl : ∀ {σ : L2.St} {H' : Hp}, σ[0]? = some (some (.ref a)) → Ex H H' → EvL (tSl (rSlL K) (tVar 0) tNoPart (tPart (tC (.int 63)))) σ H' (ns.map V.int) := fun {σ H'} h0 e => by
      have q := el_sl (K := K) (σ := σ) (H := H') (ev_var h0) eo_none (eo_some (i := 63) ev_c) (ex_l e hS)
      rw [cut63 hl2] at q
      exact q
    refine q_asg (ev_op ev_c (ev_lenN (sl rfl (Ex.refl H))) rv_I0) fun H1 e1 => ?_
    refine q_forNLn (sl rfl e1) (fun p i σ' H' => Ex H H' ∧ H' p = some (.lst (ns.map V.int)) ∧ ∃ (s0 : Int) (v : Option V), σ' = [some (.ref a), some (.int s0), v] ∧ 0 ≤ s0 ∧ s0 < 2147483647) ?_ ?_ ?_ ?_
    · intro p H2 hp e2 h2
      exact ⟨e1.trans e2, h2, _, none, rfl, by omega, by omega⟩
    · rintro p i σ' H' hi ⟨_, h, _⟩
      exact sq_of h
    · rintro p i x σ' H' hx ⟨e, h, s0, v, rfl, h0, h1⟩
      obtain ⟨z, rfl⟩ : ∃ z, x = V.int z := by
        rw [List.getElem?_map] at hx
        cases ez : ns[i]? with
        | none =>
          rw [ez] at hx
          cases hx
        | some z =>
          rw [ez] at hx
          exact ⟨z, (Option.some.inj hx).symm⟩
      refine s_asg (ev_op (ev_op (ev_op (ev_op (ev_var rfl) ev_c (rv_I (mul64 (by omega) (by decide)))) (ev_op (ev_var rfl) ev_c (rv_I (show (2147483629 : Int) ≠ 0 by decide))) rv_I0) ev_c rv_I0) ev_c (rv_I (show (2147483647 : Int) ≠ 0 by decide))) fun H2 e2 => ?_
      have hp := modP (i := s0 * 48271 + z.fmod 2147483629 + 7) (j := 2147483647) (by decide)
      exact ⟨e.trans e2, e2 _ _ h, _, _, rfl, hp.1, hp.2⟩
    · rintro p σ' H' ⟨e, h, s0, v, rfl, h0, h1⟩
      refine sl (σ := [some (.ref a), some (.int s0), v]) rfl e H' (Ex.refl _) _ fun q H2 hq e2 h2 => ⟨q, _, rfl, .inl (sq_of h2), fun l hl3 => ⟨_, rfl, sz_of (by simp), fun b hb3 => ?_⟩⟩
      have hne : l ≠ b := fun z => by
        rw [← z, upd_same] at hb3
        cases hb3
      have e3 : Ex H (upd H2 l (.lst (ns.map V.int))) := (e.trans e2).trans (Ex.new hl3)
      refine k b l _ (fresh_back e3 hb3) (fresh_back (e.trans e2) hl3) ⟨⟨0, 0, s0, 0, upd_same, Nat.zero_le _, h0, h1, Nat.le_refl _⟩, ?_, Ne.symm hne⟩ (e3.trans (Ex.new hb3))
      rw [upd_ne hne, upd_same]
end
end Hs
namespace Hs
open PySem PySem.Spec PyProof.Rows L2 Evl
/-! ### two data alike: the law's own comparison -/
def Sm (K : PySem.W.Frag) (H : Hp) : Nat → V → V → Prop
  | 0, _, _ => False
  | d + 1, u, v => (u = v ∧ flatV u = true) ∨ ∃ (a b : Addr) (xs ys : List V), u = .ref a ∧ v = .ref b ∧ ((SqL K H a xs ∧ SqL K H b ys) ∨ (SqT K H a xs ∧ SqT K H b ys)) ∧ xs.length = ys.length ∧ xs.length ≤ 1000 ∧
      ∀ (i : Nat) (x y : V), xs[i]? = some x → ys[i]? = some y → Sm K H d x y
theorem Sm.ext {K : PySem.W.Frag} {H H' : Hp} (e : Ex H H') : ∀ {d : Nat} {u v : V}, Sm K H d u v → Sm K H' d u v
  | 0, _, _, h => h.elim
  | d + 1, u, v, h => by
    rcases h with h | ⟨a, b, xs, ys, h1, h2, h3, h4, h5, h6⟩
    · exact .inl h
    · refine .inr ⟨a, b, xs, ys, h1, h2, ?_, h4, h5, fun i x y hx hy => Sm.ext e (h6 i x y hx hy)⟩
      rcases h3 with ⟨p, q⟩ | ⟨p, q⟩
      · exact .inl ⟨ex_l e p, ex_l e q⟩
      · exact .inr ⟨ex_t e p, ex_t e q⟩
def spSame (K : PySem.W.Frag) (d : Nat) : Sp := fun vs H Q _ => ∃ u v : V, vs = [u, v] ∧ Sm K H d u v ∧ RetV (.bl true) H Q
/-- of the built-in type t, whatever is new -/
def Ty (K : PySem.W.Frag) (H : Hp) (x : V) (t : String) : Prop := ∀ H1, Ex H H1 → TyX K H1 x (.type t)
theorem ty_l {K : PySem.W.Frag} {H : Hp} {a : Addr} {xs : List V} (h : SqL K H a xs) : Ty K H (.ref a) "list" := fun H1 e => by
  rcases ex_l e h with (h | ⟨o, h⟩) | ⟨o, its, n, h1, h2, _⟩
  · exact .base (.lst h)
  · exact .base (.frz h)
  · exact .kList h1 h2
theorem ty_t {K : PySem.W.Frag} {H : Hp} {a : Addr} {xs : List V} (h : SqT K H a xs) : Ty K H (.ref a) "tuple" := fun H1 e => by
  rcases ex_t e h with (h | ⟨o, h⟩) | ⟨o, its, n, h1, h2, _⟩
  · exact .base (.tup h)
  · exact .fTuple h
  · exact .kTuple h1 h2
theorem ty_bl {K : PySem.W.Frag} {H : Hp} {b : Bool} : Ty K H (.bl b) "bool" := fun _ _ => .base (.bl b)
theorem ty_int {K : PySem.W.Frag} {H : Hp} {b : Int} : Ty K H (.int b) "int" := fun _ _ => .base (.int b)
theorem ty_str {K : PySem.W.Frag} {H : Hp} {b : Str} : Ty K H (.str b) "str" := fun _ _ => .base (.str b)
theorem ev_isi {K : PySem.W.Frag} {σ : L2.St} {H : Hp} {te : TE} {x : V} {t c : String} {b : Bool} (h : Ev te σ H x) (ht : Ty K H x t) (hk : kitB t c = some b) : Ev (tCB (rIsi K) (tCons te (tCons (tC (.ty c)) tNil))) σ H (.bl b) := fun H1 e Q q =>
  h H1 e _ fun H2 e2 => ⟨x, .ty c, .type t, .type c, b, rfl, .ty c, ht H2 (e.trans e2), kit_ty hk, q H2 e2⟩
theorem ev_isi2 {K : PySem.W.Frag} {σ : L2.St} {H : Hp} {te : TE} {x : V} {t c c' : String} {b b' : Bool} (h : Ev te σ H x) (ht : Ty K H x t) (hk : kitB t c = some b) (hk' : kitB t c' = some b') :
    Ev (tCB (rIsiT K) (tCons te (tCons (tTup (tCons (tC (.ty c)) (tCons (tC (.ty c')) tNil))) tNil))) σ H (.bl (b || b')) := fun H1 e Q q =>
  h H1 e _ fun H2 e2 => ⟨sz_of (by simp), fun p hp => ⟨x, p, [.ty c, .ty c'], .type t, [.type c, .type c'], b || b', rfl, upd_same, .cons (.ty c) (.cons (.ty c') .nil), ht _ ((e.trans e2).trans (Ex.new hp)), by
    refine kitAny_cons (kit_ty hk) (fun hb => ?_) (fun hb => by rw [hb] <;> rfl)
    rw [hb, Bool.false_or]
    exact kitAny_cons (kit_ty hk') (fun hb' => by rw [hb']; exact kitAny_nil) (fun hb' => hb'), q _ (e2.trans (Ex.new hp))⟩⟩
theorem rv_ixQ {K : PySem.W.Frag} {H : Hp} {p : Addr} {xs : List V} {i : Int} {v : V} (h : SqL K H p xs ∨ SqT K H p xs) (ha : atI xs i = some v) : RV (rIx K) (.ref p) (.int i) H v := fun H1 e Q q => by
  rcases h with h | h
  · exact .inl (rv_ixL h ha H1 e Q q)
  · exact .inr (.inl (rv_ixT h ha H1 e Q q))
theorem ev_lenQ {K : PySem.W.Frag} {σ : L2.St} {H : Hp} {ta : TE} {p : Addr} {xs : List V} (ha : Ev ta σ H (.ref p)) (h : SqL K H p xs ∨ SqT K H p xs) : Ev (tCB (rLenS K) (tCons ta tNil)) σ H (.int (xs.length : Int)) := fun H1 e Q q =>
  ha H1 e _ fun H2 e2 => ⟨p, xs, rfl, h.imp (fun h => ex_l (e.trans e2) h) (fun h => ex_t (e.trans e2) h), q H2 e2⟩
theorem given_true (n : Nat) : given n (fun _ => true) (fun _ => V.bl true) = (List.replicate n true).map V.bl := by
  induction n with
  | zero => rfl
  | succ n ih =>
    rw [given_yes rfl, ih, List.replicate_succ', List.map_append] <;> rfl
theorem ev_allT {K : PySem.W.Frag} {σ : L2.St} {H : Hp} {te : TE} {n : Nat} (h : EvL te σ H (given n (fun _ => true) (fun _ => V.bl true))) : Ev (tCB (rAll K) (tCons te tNil)) σ H (.bl true) := fun H1 e Q q =>
  h H1 e _ fun p H2 _ e2 h2 => ⟨p, List.replicate n true, rfl, sq_of (by rw [h2, given_true]), by
    have e3 : (List.replicate n true).all id = true := by simp
    rw [e3]
    exact q H2 e2⟩
theorem kb_bool_bool : kitB "bool" "bool" = some true := by decide +kernel
theorem kb_bool_int : kitB "bool" "int" = some true := by decide +kernel
theorem kb_bool_str : kitB "bool" "str" = some false := by decide +kernel
theorem kb_bool_list : kitB "bool" "list" = some false := by decide +kernel
theorem kb_bool_tuple : kitB "bool" "tuple" = some false := by decide +kernel
theorem kb_int_bool : kitB "int" "bool" = some false := by decide +kernel
theorem kb_int_int : kitB "int" "int" = some true := by decide +kernel
theorem kb_int_str : kitB "int" "str" = some false := by decide +kernel
theorem kb_int_list : kitB "int" "list" = some false := by decide +kernel
theorem kb_int_tuple : kitB "int" "tuple" = some false := by decide +kernel
theorem kb_str_bool : kitB "str" "bool" = some false := by decide +kernel
theorem kb_str_int : kitB "str" "int" = some false := by decide +kernel
theorem kb_str_str : kitB "str" "str" = some true := by decide +kernel
theorem kb_str_list : kitB "str" "list" = some false := by decide +kernel
theorem kb_str_tuple : kitB "str" "tuple" = some false := by decide +kernel
theorem kb_list_bool : kitB "list" "bool" = some false := by decide +kernel
theorem kb_list_int : kitB "list" "int" = some false := by decide +kernel
theorem kb_list_str : kitB "list" "str" = some false := by decide +kernel
theorem kb_list_list : kitB "list" "list" = some true := by decide +kernel
theorem kb_list_tuple : kitB "list" "tuple" = some false := by decide +kernel
theorem kb_tuple_bool : kitB "tuple" "bool" = some false := by decide +kernel
theorem kb_tuple_int : kitB "tuple" "int" = some false := by decide +kernel
theorem kb_tuple_str : kitB "tuple" "str" = some false := by decide +kernel
theorem kb_tuple_list : kitB "tuple" "list" = some false := by decide +kernel
theorem kb_tuple_tuple : kitB "tuple" "tuple" = some true := by decide +kernel
section
variable {P : Program} {w : World} {K : PySem.W.Frag} {mg : Str → Option Value} {base : Heap} {f : Addr} {fd : FuncData}
abbrev sSame : Stmt := top 21
theorem scSame : FnScope ["_law_got", "_law_due", "_law_k"] ["_law_got", "_law_due"] (defScope sSame) := ⟨rfl, rfl, rfl, by decide +kernel, rfl, by decide +kernel, by decide +kernel⟩
theorem ok_same (F : FnP K "_law_same" sSame f fd) (m : mg "_law_same" = some (.ref f)) (g_len : mg "len" = none) (g_isinstance : mg "isinstance" = none) (g_bool : mg "bool" = none) (g_int : mg "int" = none) (g_str : mg "str" = none) (g_list : mg "list" = none) (g_tuple : mg "tuple" = none)
    (g_all : mg "all" = none) (g_range : mg "range" = none) : ∀ d, FnOk P w K mg base CX0 d f fd ["_law_got", "_law_due"] (spSame K d)
  | 0 => ⟨fun _ _ _ _ h => by
      obtain ⟨u, v, _, h, _⟩ := h
      exact h.elim, fun _ _ _ _ _ _ _ _ _ _ _ _ _ h => by
      obtain ⟨u, v, _, h, _⟩ := h
      exact h.elim⟩
  | d + 1 => by
    have O__law_same : Own P w K mg base d "_law_same" ["_law_got", "_law_due"] (spSame K d) := own_of F m (ok_same F m g_len g_isinstance g_bool g_int g_str g_list g_tuple g_all g_range d) fun _ _ _ _ _ _ us hl => match us, hl with | [_, _], _ => rfl
    have nd := scSame.nd
    refine F.ok scSame (fun vs H Q E h => ?_) (fun cdv A outer s H vs Q E hr h => ⟨_, PSs.nox (pss_cons (ps_if (PW.pt (pw_or (pt_cmpR op_isN (pv 1) pe_non (nomark _)) (pw_or1 (pt_cmpR op_isN (pv 0) pe_non (nomark _))))) (pss_one (ps_ret (pe_and (pe_cmpR op_isN (pv 1) pe_non (nomark _)) (pe_one (pe_cmpR op_isN (pv 0) pe_non (nomark _)))))) pss_nil)
  (pss_cons (ps_if (PW.pt (pw_or (pt_val (pe_callB (r := rIsi K) call_isi (by rfl) g_isinstance (by decide +kernel) (pa_cons (pv 1) (pa_cons (pe_bltn (v := .ty "bool") (by rfl) g_bool (by decide +kernel) rfl) pa_nil)))) (pw_or1 (pt_val (pe_callB (r := rIsi K) call_isi (by rfl) g_isinstance (by decide +kernel) (pa_cons (pv 0) (pa_cons (pe_bltn (v := .ty "bool") (by rfl) g_bool (by decide +kernel) rfl) pa_nil))))))) (pss_one (ps_ret (pe_and (pe_callB (r := rIsi K) call_isi (by rfl) g_isinstance (by decide +kernel) (pa_cons (pv 1) (pa_cons (pe_bltn (v := .ty "bool") (by rfl) g_bool (by decide +kernel) rfl) pa_nil))) (pe_and (pe_callB (r := rIsi K) call_isi (by rfl) g_isinstance (by decide +kernel) (pa_cons (pv 0) (pa_cons (pe_bltn (v := .ty "bool") (by rfl) g_bool (by decide +kernel) rfl) pa_nil))) (pe_one (pe_cmpR op_eq (pv 0) (pv 1) (nomark _))))))) pss_nil)
  (pss_cons (ps_if (pt_val (pe_callB (r := rIsiT K) call_isiT (by rfl) g_isinstance (by decide +kernel) (pa_cons (pv 1) (pa_cons (pe_tup (pa_cons (pe_bltn (v := .ty "int") (by rfl) g_int (by decide +kernel) rfl) (pa_cons (pe_bltn (v := .ty "str") (by rfl) g_str (by decide +kernel) rfl) pa_nil))) pa_nil)))) (pss_one (ps_ret (pe_and (pe_cmpR op_eq (pe_callB (r := rIsi K) call_isi (by rfl) g_isinstance (by decide +kernel) (pa_cons (pv 0) (pa_cons (pe_bltn (v := .ty "int") (by rfl) g_int (by decide +kernel) rfl) pa_nil))) (pe_callB (r := rIsi K) call_isi (by rfl) g_isinstance (by decide +kernel) (pa_cons (pv 1) (pa_cons (pe_bltn (v := .ty "int") (by rfl) g_int (by decide +kernel) rfl) pa_nil))) (nomark _)) (pe_one (pe_cmpR op_eq (pv 0) (pv 1) (nomark _)))))) pss_nil)
  (pss_cons (ps_if (PW.pt (pw_or (pt_cmpR op_ne (pe_callB (r := rIsi K) call_isi (by rfl) g_isinstance (by decide +kernel) (pa_cons (pv 1) (pa_cons (pe_bltn (v := .ty "list") (by rfl) g_list (by decide +kernel) rfl) pa_nil))) (pe_callB (r := rIsi K) call_isi (by rfl) g_isinstance (by decide +kernel) (pa_cons (pv 0) (pa_cons (pe_bltn (v := .ty "list") (by rfl) g_list (by decide +kernel) rfl) pa_nil))) (nomark _)) (pw_or1 (pt_cmpR op_ne (pe_callB (r := rIsi K) call_isi (by rfl) g_isinstance (by decide +kernel) (pa_cons (pv 1) (pa_cons (pe_bltn (v := .ty "tuple") (by rfl) g_tuple (by decide +kernel) rfl) pa_nil))) (pe_callB (r := rIsi K) call_isi (by rfl) g_isinstance (by decide +kernel) (pa_cons (pv 0) (pa_cons (pe_bltn (v := .ty "tuple") (by rfl) g_tuple (by decide +kernel) rfl) pa_nil))) (nomark _))))) (pss_one (ps_ret pe_bl)) pss_nil)
  (pss_one (ps_ret (pe_and (pe_cmpR op_eq (pe_callB (r := Evl.rLenS K) call_len_seq (by rfl) g_len PySem.boot_len (pa_cons (pv 0) pa_nil)) (pe_callB (r := Evl.rLenS K) call_len_seq (by rfl) g_len PySem.boot_len (pa_cons (pv 1) pa_nil)) (nomark _)) (pe_one (pe_callB (r := rAll K) (cr_all rfl) (by rfl) g_all (by decide +kernel) (pa_cons (pe_lc (own := [("_law_k", 2)]) rfl nd (pi_range1 (by rfl) g_range (pa_cons (pe_callB (r := Evl.rLenS K) call_len_seq (by rfl) g_len PySem.boot_len (pa_cons (pv 1) pa_nil)) pa_nil)) (blkOk_by (N := ["_law_got", "_law_due", "_law_k"]) (sc := defScope (Hs.top 21)) (by decide +kernel)) (fun _ _ _ _ _ => (pg_name (i := 2) nd rfl (Or.inl rfl))) (fun _ _ _ _ _ => pts_nil) (fun _ _ _ _ _ => (Hs.pe_own O__law_same hr (by first | decide | omega) (by rfl) (pa_cons (pe_ix (r := rIx K) ix_seq (pv 0) (pv 2) (fun _ _ => rfl)) (pa_cons (pe_ix (r := rIx K) ix_seq (pv 1) (pv 2) (fun _ _ => rfl)) pa_nil))))) pa_nil)))))))))), ?_⟩)
    · obtain ⟨u, v, rfl, _⟩ := h
      rfl
    · obtain ⟨u, v, rfl, h, k⟩ := h
      rcases h with ⟨rfl, hf⟩ | ⟨a, b, xs, ys, rfl, rfl, hq, hlen, hz, hi⟩
      · cases u with
        | non =>
          refine q_when (et_or (et_test (ev_op (ev_var rfl) ev_c (rv_val fun H1 _ Q q => ⟨rfl, q⟩))) (fun _ => et_test (ev_op (ev_var rfl) ev_c (rv_val fun H1 _ Q q => ⟨rfl, q⟩)))) (fun ht H1 e1 => ?_) (fun ht => by simp at ht)
          exact s_ret (ev_is (ev_andV (ev_op (ev_var rfl) ev_c (rv_val fun H1 _ Q q => ⟨rfl, q⟩)) (fun _ => ev_op (ev_var rfl) ev_c (rv_val fun H1 _ Q q => ⟨rfl, q⟩))) (by simp)) fun H2 e2 => k _ (e1.trans e2)
        | bl y =>
          refine q_when (b := false) (et_is (et_or (et_test (ev_op (ev_var rfl) ev_c (rv_val fun H1 _ Q q => ⟨rfl, q⟩))) (fun _ => et_test (ev_op (ev_var rfl) ev_c (rv_val fun H1 _ Q q => ⟨rfl, q⟩)))) (by simp)) (fun ht => Bool.noConfusion ht) (fun _ H1 e1 => ?_)
          refine q_when (b := true) (et_is (et_or (et_B (ev_isi (ev_var rfl) ty_bl kb_bool_bool)) (fun _ => et_B (ev_isi (ev_var rfl) ty_bl kb_bool_bool))) (by simp)) (fun _ H2 e2 => ?_) (fun ht => Bool.noConfusion ht)
          exact s_ret (ev_is (ev_andV (ev_isi (ev_var rfl) ty_bl kb_bool_bool) (fun _ => ev_andV (ev_isi (ev_var rfl) ty_bl kb_bool_bool) (fun _ => ev_op (ev_var rfl) (ev_var rfl) (rv_eq rfl)))) (by simp)) fun H3 e3 => k _ ((e1.trans e2).trans e3)
        | int i =>
          refine q_when (b := false) (et_is (et_or (et_test (ev_op (ev_var rfl) ev_c (rv_val fun H1 _ Q q => ⟨rfl, q⟩))) (fun _ => et_test (ev_op (ev_var rfl) ev_c (rv_val fun H1 _ Q q => ⟨rfl, q⟩)))) (by simp)) (fun ht => Bool.noConfusion ht) (fun _ H1 e1 => ?_)
          refine q_when (b := false) (et_is (et_or (et_B (ev_isi (ev_var rfl) ty_int kb_int_bool)) (fun _ => et_B (ev_isi (ev_var rfl) ty_int kb_int_bool))) (by simp)) (fun ht => Bool.noConfusion ht) (fun _ H2 e2 => ?_)
          refine q_when (b := true) (et_is (et_B (ev_isi2 (ev_var rfl) ty_int kb_int_int kb_int_str)) (by simp)) (fun _ H3 e3 => ?_) (fun ht => Bool.noConfusion ht)
          exact s_ret (ev_is (ev_andV (ev_op (ev_isi (ev_var rfl) ty_int kb_int_int) (ev_isi (ev_var rfl) ty_int kb_int_int) (rv_eq rfl)) (fun _ => ev_op (ev_var rfl) (ev_var rfl) (rv_eq rfl))) (by simp)) fun H4 e4 => k _ (((e1.trans e2).trans e3).trans e4)
        | str x =>
          refine q_when (b := false) (et_is (et_or (et_test (ev_op (ev_var rfl) ev_c (rv_val fun H1 _ Q q => ⟨rfl, q⟩))) (fun _ => et_test (ev_op (ev_var rfl) ev_c (rv_val fun H1 _ Q q => ⟨rfl, q⟩)))) (by simp)) (fun ht => Bool.noConfusion ht) (fun _ H1 e1 => ?_)
          refine q_when (b := false) (et_is (et_or (et_B (ev_isi (ev_var rfl) ty_str kb_str_bool)) (fun _ => et_B (ev_isi (ev_var rfl) ty_str kb_str_bool))) (by simp)) (fun ht => Bool.noConfusion ht) (fun _ H2 e2 => ?_)
          refine q_when (b := true) (et_is (et_B (ev_isi2 (ev_var rfl) ty_str kb_str_int kb_str_str)) (by simp)) (fun _ H3 e3 => ?_) (fun ht => Bool.noConfusion ht)
          exact s_ret (ev_is (ev_andV (ev_op (ev_isi (ev_var rfl) ty_str kb_str_int) (ev_isi (ev_var rfl) ty_str kb_str_int) (rv_eq rfl)) (fun _ => ev_op (ev_var rfl) (ev_var rfl) (rv_eq rfl))) (by simp)) fun H4 e4 => k _ (((e1.trans e2).trans e3).trans e4)
        | _ => cases hf
      · have ta : ∀ {H' : Hp}, Ex H H' → (Ty K H' (.ref a) "list" ∧ Ty K H' (.ref b) "list") ∨ (Ty K H' (.ref a) "tuple" ∧ Ty K H' (.ref b) "tuple") := fun {H'} e => by
          rcases hq with ⟨p, q⟩ | ⟨p, q⟩
          · exact .inl ⟨ty_l (ex_l e p), ty_l (ex_l e q)⟩
          · exact .inr ⟨ty_t (ex_t e p), ty_t (ex_t e q)⟩
        have qa : ∀ {H' : Hp}, Ex H H' → SqL K H' a xs ∨ SqT K H' a xs := fun {H'} e => hq.imp (fun h => ex_l e h.1) (fun h => ex_t e h.1)
        have qb : ∀ {H' : Hp}, Ex H H' → SqL K H' b ys ∨ SqT K H' b ys := fun {H'} e => hq.imp (fun h => ex_l e h.2) (fun h => ex_t e h.2)
        refine q_when (b := false) (et_is (et_or (et_test (ev_op (ev_var rfl) ev_c (rv_val fun H1 _ Q q => ⟨rfl, q⟩))) (fun _ => et_test (ev_op (ev_var rfl) ev_c (rv_val fun H1 _ Q q => ⟨rfl, q⟩)))) (by simp)) (fun ht => Bool.noConfusion ht) (fun _ H1 e1 => ?_)
        have t2 : ∀ {σ : L2.St} {H' : Hp}, σ[0]? = some (some (.ref a)) → σ[1]? = some (some (.ref b)) → Ex H H' → Ev (tCB (rIsi K) (tCons (tVar 1) (tCons (tC (.ty "bool")) tNil))) σ H' (.bl false) ∧ Ev (tCB (rIsi K) (tCons (tVar 0) (tCons (tC (.ty "bool")) tNil))) σ H' (.bl false) ∧
            Ev (tCB (rIsiT K) (tCons (tVar 1) (tCons (tTup (tCons (tC (.ty "int")) (tCons (tC (.ty "str")) tNil))) tNil))) σ H' (.bl false) ∧
            ∃ b1 b2, Ev (tCB (rIsi K) (tCons (tVar 1) (tCons (tC (.ty "list")) tNil))) σ H' (.bl b1) ∧ Ev (tCB (rIsi K) (tCons (tVar 0) (tCons (tC (.ty "list")) tNil))) σ H' (.bl b1) ∧ Ev (tCB (rIsi K) (tCons (tVar 1) (tCons (tC (.ty "tuple")) tNil))) σ H' (.bl b2) ∧ Ev (tCB (rIsi K) (tCons (tVar 0) (tCons (tC (.ty "tuple")) tNil))) σ H' (.bl b2) := fun {σ H'} h0 h1 e => by
          rcases ta e with ⟨p, q⟩ | ⟨p, q⟩
          · exact ⟨ev_isi (ev_var h1) q kb_list_bool, ev_isi (ev_var h0) p kb_list_bool, ev_isi2 (ev_var h1) q kb_list_int kb_list_str, true, false, ev_isi (ev_var h1) q kb_list_list, ev_isi (ev_var h0) p kb_list_list, ev_isi (ev_var h1) q kb_list_tuple, ev_isi (ev_var h0) p kb_list_tuple⟩
          · exact ⟨ev_isi (ev_var h1) q kb_tuple_bool, ev_isi (ev_var h0) p kb_tuple_bool, ev_isi2 (ev_var h1) q kb_tuple_int kb_tuple_str, false, true, ev_isi (ev_var h1) q kb_tuple_list, ev_isi (ev_var h0) p kb_tuple_list, ev_isi (ev_var h1) q kb_tuple_tuple, ev_isi (ev_var h0) p kb_tuple_tuple⟩
        obtain ⟨i1, i2, _⟩ := t2 (σ := [some (.ref a), some (.ref b), none]) rfl rfl e1
        refine q_when (b := false) (et_is (et_or (et_B i1) (fun _ => et_B i2)) (by simp)) (fun ht => Bool.noConfusion ht) (fun _ H2 e2 => ?_)
        obtain ⟨_, _, i3, _⟩ := t2 (σ := [some (.ref a), some (.ref b), none]) rfl rfl (e1.trans e2)
        refine q_when (b := false) (et_B i3) (fun ht => Bool.noConfusion ht) (fun _ H3 e3 => ?_)
        have e03 := (e1.trans e2).trans e3
        obtain ⟨_, _, _, b1, b2, j1, j2, j3, j4⟩ := t2 (σ := [some (.ref a), some (.ref b), none]) rfl rfl e03
        refine q_when (b := false) (et_is (et_or (et_test (ev_op j1 j2 (rv_ne rfl))) (fun _ => et_test (ev_op j3 j4 (rv_ne rfl)))) (by simp)) (fun ht => Bool.noConfusion ht) (fun _ H4 e4 => ?_)
        have e04 := e03.trans e4
        refine s_ret (ev_is (ev_andV (ev_op (ev_lenQ (ev_var rfl) (qa e04)) (ev_lenQ (ev_var rfl) (qb e04)) (rv_eq rfl)) (fun _ => ev_allT (n := ys.length) ?_)) (by simp [hlen])) fun H5 e5 => k _ (e04.trans e5)
        refine el_lcR1 (n := (ys.length : Int)) (fun _ => true) (fun _ => V.bl true) (ea_cons (ev_lenQ (ev_var rfl) (qb e04)) ea_nil) (by omega) (fun x => rfl) (fun i H6 e6 hi6 H7 e7 Q' q' => q' H7 (Ex.refl H7)) (fun i H6 e6 hi6 _ => ?_)
        have hiy : i < ys.length := by omega
        have hix : i < xs.length := by omega
        have gx : xs[i]? = some xs[i] := List.getElem?_eq_getElem hix
        have gy : ys[i]? = some ys[i] := List.getElem?_eq_getElem hiy
        have e06 := e04.trans e6
        exact ev_call (ea_cons (ev_op (ev_var rfl) (ev_var rfl) (rv_ixQ (qa e06) (atI_nat gx))) (ea_cons (ev_op (ev_var rfl) (ev_var rfl) (rv_ixQ (qb e06) (atI_nat gy))) ea_nil)) fun H7 e7 Q' q' E' => ⟨_, _, rfl, (hi i _ _ gx gy).ext (e06.trans e7), q'⟩
end
end Hs
namespace Hs
open PySem PySem.Spec PyProof.Rows L2
/-! ### own error classes whose __init__ begins with super().__init__(..) -/
section
open PySem.W
variable {prog : Program} {w : World} {A : Around} {E : Value → Shared → Prop} {h : Heap} {g : Array GenState} {d : Drawn} {t : Nat} {os : OsState}
variable {nm q : Str} {C N : Addr} {bs bm bmB : List Value} {hdct : Bool} {sn : List Str} {sub : List Value} {ab : Bool} {col : Option Bool} {dd : Option Addr} {k0 k1 k2 k3 k5 : Option Value} {B newId initId : String}
theorem call_mw (FB : ExcBaseFacts B newId initId bmB) {u e t0 : Addr} {rest : List Value} {Q : Value → Shared → Prop}
    (hC : h.get? C = some (excClassObj nm q C N bs bm hdct sn sub ab col dd k0 k1 k2 k3 k5 newId)) (he : h.get? e = some (HandSPX.excO C t0)) (hu : h.get? u = some (kxs_mw initId e)) (hrest : rest.length ≤ sizeLine)
    (hq : ∀ h' t1, (∀ b o, b ≠ e → h.get? b = some o → h'.get? b = some o) → h'.get? e = some (HandSPX.excO C t1) → Q .none ⟨h', g, d, t, os⟩) :
    wpAny (model prog w) A (call (.ref u) rest) Q E ⟨h, g, d, t, os⟩ := by
  refine wpAny_call (codeAny_of_tree ?_)
  show wpAny _ A.in1 (callAny (.ref u) ⟨rest, []⟩) _ _ _
  simp only [callAny]
  refine wpAny_bind (wpAny_load hu ?_)
  simp only [kxs_mw, show (Value.type "method-wrapper" == Value.type "method" || Value.type "method-wrapper" == Value.type "builtin_function_or_method" || Value.type "method-wrapper" == Value.type "method-wrapper") = true by decide, if_true]
  refine KFB.if_so (by decide) ?_
  refine wpAny_bind (ESX.check_bound FB hC he rfl ?_)
  refine wpAny_bind (wpAny_pure (wpAny_pure ?_))
  refine ⟨plainId_quiet FB.init.plain _, codeAny_builtin FB.initEntry ?_⟩
  exact exc_init_tree (cls := .ref C) (t0 := t0) (dv := none) (c2 := .none) (c3 := .none) (b4 := .bool false) he hrest fun h' k e' _ => hq h' _ k e'
end
end Hs
namespace Hs
open PySem PySem.Spec PyProof.Rows L2
/-- what the written part says of an own error class over ValueError, of its __init__ and of what super() asks -/
structure SupC (P : Program) (K : PySem.W.Frag) (mg : Str → Option Value) (C c cc : Addr) : Prop where
  ox : OexC K C
  code : ∃ (ccl : Value) (cdd : Option Addr) (vs : Array Value) (ccs : Array (Option Value)) (file : Str) (tf : Tok), K.lookup c = some ⟨ccl, cdd, .fields vs, ccs⟩ ∧ vs[2]? = some (.str file tf) ∧ ((P.main.file : Str) == file) = true
  cell : ∃ (cl : Value) (cld : Option Addr) (csl : Array (Option Value)), K.lookup cc = some ⟨cl, cld, .cell (some (.ref C)), csl⟩
  me : PySem.W.mroIn K C (.ref C) = some true
  sup : PySem.W.ks_superIn K C C "__init__" = some (some (.builtin "ValueError.__init__"))
  ve : PySem.W.subIn K (.ref C) (.type "ValueError") = some true
  op : PySem.W.nsIn K cStatics "thirdparty.any" = some none
  gs : mg "super" = none
  top : (P.main.scope.names.lookup ("super" : Str)).isSome = false
theorem sup_walk {X : Cx} {σ : L2.St} {H : Hp} {s : Shared} {C f c cc a : Addr} {fd : FuncData} {oc : Value} {od : Option Addr} {osl : Array (Option Value)} {ar : Arg} {body : List Stmt} {p0 p1 p2 p3 pos0 : Pos} {e : Expr} {ta : TA} {R : Hp → Prop} {pl : Sem Bool}
    (T : SupC X.prog X.K X.mg C c cc) (I : Inv X [] σ H s) (lk : X.K.lookup f = some ⟨oc, od, .func fd, osl⟩) (hp : (fd.params.posonlyargs ++ fd.params.args).head? = some ar)
    (hfu : X.env.func = some f) (hco : X.env.code = .ref c) (hce : X.env.cells.lookup ("__class__" : Str) = some cc) (hks : X.env.kindOf "super" = some .globalImplicit) (hkc : X.env.kindOf "__class__" = some .free) (hN0 : X.N[0]? = some ar.arg) (hl0 : X.env.kindOf ar.arg = some .local)
    (h0 : σ[0]? = some (some (.ref a))) (ea : H a = some (exo a C none)) (hPA : PA X [e] ta) (ht : ta σ H fun us H1 => us.length ≤ 1000 ∧ H1 a = some (exo a C none) ∧ R H1)
    (hst : starEach [e] X.env = [(false, eval e X.env)])
    (hi : interactive X.env = false := by rfl) (hsw : swapsWith (.Call (.Attribute (.Call (.Name "super" p0) [] [] p1) "__init__" p2) [e] [] p3) none pos0.line X.env = pure false := by rfl)
    (he : eval (.Call (.Attribute (.Call (.Name "super" p0) [] [] p1) "__init__" p2) [e] [] p3) X.env = (do
      let ov ← attributeBase (.Call (.Name "super" p0) [] [] p1) "__init__" X.env (eval (.Call (.Name "super" p0) [] [] p1) X.env)
      standAt p2.atName
      let (f, first) ← holding [ov] (getMethod ov "__init__" pl)
      callWith p3 f first (backTo p3 (starEach [e] X.env)) []) := by rfl) :
    _root_.PySem.wpAt (model X.prog X.w) X.A (.func body X.env) (exec (.Expr (.Call (.Attribute (.Call (.Name "super" p0) [] [] p1) "__init__" p2) [e] [] p3) pos0) X.env) (fun fl s' => fl = .next ∧ ∃ H1, Inv X [] σ H1 s' ∧ R H1) X.xe s := by
  obtain ⟨ccl, cdd, vsc, ccs, file, tf, hcode, hv2, hfile⟩ := T.code
  obtain ⟨cl0, cld0, csl0, hcell⟩ := T.cell
  obtain ⟨nm, q, Nn, bs, bm, sn, sub, ab, col, dd, k0, k1, k2, k3, k5, hC, hbm⟩ := T.ox.cls
  have hcl : PySem.W.clsIn X.K C = some { name := nm, bases := bs, mro := .ref C :: bm, ns := Nn, qualname := q, hasDict := true, slotNames := sn, subclasses := sub, abstract := ab, collection := col, hasDel := false } := by unfold PySem.W.clsIn; rw [hC] <;> rfl
  have KX := I.kIn
  obtain ⟨t1, ho⟩ := exo_at I.hok ea
  have hkind := I.ok.kind
  obtain ⟨mb, hb1, hb2⟩ := I.mod.blt
  obtain ⟨m, hns, hloc⟩ := id I.loc
  obtain ⟨u0, ru, lk0⟩ := hloc 0 ar.arg (.ref a) hN0 h0 (.inl hl0)
  obtain rfl : u0 = Value.ref a := ru
  have hself : m ar.arg = some (.ref a) := by
    rcases lk0 with ⟨_, z⟩ | ⟨z | z, _⟩
    · exact z
    · rw [hl0] at z
      cases z
    · rw [hl0] at z
      cases z
  have hDo := KX _ _ hC
  obtain ⟨hp0, g0, d0, tk0, os0⟩ := s
  refine ks_wpAt_Expr_any (ks_wpAt_MethodCall (pl := pl) ?_ he) hi hsw
  refine ks_wpAt_super_base (env := X.env) hks hkc (by decide) hfu (KX _ _ lk) rfl hp hco (KX _ _ hcode) rfl hv2 hfile T.top ?_
  refine PySem.W.ks_loadName_global hkind hks (Calls.loadGlobal_builtin (env := X.env) (by rw [I.ok.glob]; exact I.mod.glob.keeps I.bk) T.gs (by rw [I.ok.blt]; exact hb1.keeps I.bk) ((hb2 "super" (by decide)).trans (by decide +kernel)) ⟨rfl, ?_⟩)
  refine wpAny_loadName_free hkind hkc hce ⟨_, KX _ _ hcell, rfl⟩ ?_
  refine wpAny_loadName_local hkind hl0 hns hself ?_
  refine ks_wpAny_isType_cls hDo rfl ⟨rfl, ?_⟩
  refine ks_wpAny_call_super hDo rfl ho rfl (fun _ z => by cases z) (PySem.W.looks_mroIn KX T.me) fun h1 e1 kp1 => ?_
  have I1 : Inv X [] σ H ⟨h1, g0, d0, tk0, os0⟩ := I.kept (t' := tk0) kp1
  have KX1 := I1.kIn
  obtain ⟨t2, ho1⟩ := exo_at I1.hok ea
  have hI : PySem.W.Looks (model X.prog X.w) h1 (isInstance (.ref a) (.type "ValueError")) true := (show PySem.W.InstAt h1 a _ C none from ⟨ho1, rfl, rfl, trivial⟩).type.andThen (PySem.W.looks_subIn KX1 T.ve)
  have hmro : PySem.W.Looks (model X.prog X.w) h1 (mroOf (.ref C)) (.ref C :: bm) := (PySem.W.looks_clsIn KX1 hcl).andThen .now
  have hsupr := T.sup
  unfold PySem.W.ks_superIn at hsupr
  rw [hcl] at hsupr
  have hxC : a ≠ C := fun z => by
    have w1 := KX1 _ _ hC
    rw [← z, ho1] at w1
    cases w1
  refine PySem.W.kxs_getMethod PySem.W.kxs_ValueError e1 (PySem.W.looks_opaque KX1 T.op) hmro rfl KX1 hsupr hI hxC (by decide) ?_
  have kp2 : ∀ b o, h1.get? b = some o → (h1.push (PySem.W.kxs_mw "ValueError.__init__" a)).get? b = some o := fun b o z => Heap.get?_push_of_some _ z
  have I2 : Inv X [] σ H ⟨h1.push (PySem.W.kxs_mw "ValueError.__init__" a), g0, d0, tk0 + 1, os0⟩ := I1.kept (t' := tk0 + 1) kp2
  have hu2 : (h1.push (PySem.W.kxs_mw "ValueError.__init__" a)).get? h1.objs.size = some (PySem.W.kxs_mw "ValueError.__init__" a) := Heap.get?_push_at rfl rfl
  have nu : H h1.objs.size = none := I1.hok.fresh (Nat.le_refl _)
  have I3 : Inv X [(h1.objs.size, PySem.W.kxs_mw "ValueError.__init__" a)] σ H ⟨h1.push (PySem.W.kxs_mw "ValueError.__init__" a), g0, d0, tk0 + 1, os0⟩ := I2.pins_of fun p hp => by
    rcases List.mem_cons.mp hp with z | z
    · subst z
      exact ⟨hu2, nu, fun z => Nat.lt_irrefl _ (z ▸ I1.lt), I1.nofs (Nat.le_refl _), fun v z => by cases z⟩
    · cases z
  show wpAny _ _ (callWith p3 (.ref h1.objs.size) [] (backTo p3 (starEach [e] X.env)) []) _ _ _
  have run := hPA.run p3 _ _ σ H _ I3 ht
  rw [hst] at run ⊢
  refine PySem.W.kxs_callWith (i := "ValueError.__init__") (x := a) rfl (Calls.evalArgs_plain (wpAny_mono run (fun us s2 z => ?_) fun _ _ z => z))
  obtain ⟨vs2, H2, I4, r4, hz, ea2, hR⟩ := z
  have hu4 := (I4.pin (h1.objs.size, PySem.W.kxs_mw "ValueError.__init__" a) (List.mem_append_right _ (List.mem_cons_self ..))).1
  obtain ⟨t4, ho4⟩ := exo_at I4.hok ea2
  have hlen : us.length ≤ sizeLine := by
    rw [← Paired.length r4, sizeLine_eq]
    omega
  obtain ⟨hp4, g4, d4, tk4, os4⟩ := s2
  refine ⟨hu4, call_mw F.excBase_ValueError (I4.kIn _ _ hC) ho4 hu4 hlen fun h' t5 k5 hx5 => ⟨rfl, H2, ?_, hR⟩⟩
  have J := I4.write (t' := tk4) (x := a) (e := a) (o := exo a C none) (by rw [ea2]; exact True.intro) (.inl rfl) k5 ⟨_, hx5⟩ (exo_ok hx5)
  have eu : upd H2 a (exo a C none) = H2 := by
    funext b
    by_cases hb : b = a
    · rw [hb, upd_same, ea2]
    · rw [upd_ne hb]
  rw [eu] at J
  exact J.pins_of fun p hp => by cases hp
theorem sup_ok {P : Program} {w : World} {K : PySem.W.Frag} {mg : Str → Option Value} {base : Heap} {k : Nat} {N ps : List Str} {C f c cc : Addr} {name qual : Str} {params : Arguments} {p0 p1 p2 p3 pos0 : Pos} {e : Expr} {rest : List Stmt} {scope : Scope}
    {dV kV doc pm ct oc : Value} {an od : Option Addr} {osl : Array (Option Value)} {ar : Arg} {sp : Sp} {pl : Addr → Sem Bool} (T : SupC P K mg C c cc)
    (lk : K.lookup f = some ⟨oc, od, .func (PySem.W.fnX name qual params (.Expr (.Call (.Attribute (.Call (.Name "super" p0) [] [] p1) "__init__" p2) [e] [] p3) pos0 :: rest) scope [("__class__", cc)] dV kV doc pm an (.ref c) ct), osl⟩)
    (hcd : PySem.W.codeIn K (.ref c) qual = true) (S : NdefX.NScope N ps ["__class__"] scope) (hks : scope.names.lookup ("super" : Str) = some .globalImplicit)
    (hp : (params.posonlyargs ++ params.args).head? = some ar) (hN0 : N[0]? = some ar.arg) (hl0 : scope.names.lookup ar.arg = some .local) (len : ∀ vs H Q E, sp vs H Q E → vs.length = ps.length)
    (hbody : ∀ (A : Around) (outer : List Env) (s : Shared) (H : Hp) (vs : List V) (Q : VK) (E : XK), Room k (A.deeper (NdefX.envF ⟨name, qual, params, [], scope, [("__class__", cc)], c⟩ f s.heap.objs.size)) → sp vs H Q E →
      ∃ (a : Addr) (ta : TA) (t : TS), (NdefX.startF N vs [none])[0]? = some (some (.ref a)) ∧ H a = some (exo a C none) ∧ PA (NdefX.ncx CX0 P w K mg base N ⟨name, qual, params, [], scope, [("__class__", cc)], c⟩ f A outer s H E).nox [e] ta ∧
        PSs (NdefX.ncx CX0 P w K mg base N ⟨name, qual, params, [], scope, [("__class__", cc)], c⟩ f A outer s H E).nox rest t ∧
        ta (NdefX.startF N vs [none]) H fun us H1 => us.length ≤ 1000 ∧ H1 a = some (exo a C none) ∧ t { nx := fun _ H' => Q .non H', rt := Q } (NdefX.startF N vs [none]) H1)
    (hst : ∀ env : Env, starEach [e] env = [(false, eval e env)]) (hi : ∀ L : Addr, interactive (NdefX.envF ⟨name, qual, params, [], scope, [("__class__", cc)], c⟩ f L) = false)
    (hsw : ∀ L : Addr, swapsWith (.Call (.Attribute (.Call (.Name "super" p0) [] [] p1) "__init__" p2) [e] [] p3) none pos0.line (NdefX.envF ⟨name, qual, params, [], scope, [("__class__", cc)], c⟩ f L) = pure false)
    (he : ∀ L : Addr, eval (.Call (.Attribute (.Call (.Name "super" p0) [] [] p1) "__init__" p2) [e] [] p3) (NdefX.envF ⟨name, qual, params, [], scope, [("__class__", cc)], c⟩ f L) = (do
      let ov ← attributeBase (.Call (.Name "super" p0) [] [] p1) "__init__" (NdefX.envF ⟨name, qual, params, [], scope, [("__class__", cc)], c⟩ f L) (eval (.Call (.Name "super" p0) [] [] p1) (NdefX.envF ⟨name, qual, params, [], scope, [("__class__", cc)], c⟩ f L))
      standAt p2.atName
      let (ff, first) ← holding [ov] (getMethod ov "__init__" (pl L))
      callWith p3 ff first (backTo p3 (starEach [e] (NdefX.envF ⟨name, qual, params, [], scope, [("__class__", cc)], c⟩ f L))) [])) :
    FnOk P w K mg base CX0 (k + 1) f (PySem.W.fnX name qual params (.Expr (.Call (.Attribute (.Call (.Name "super" p0) [] [] p1) "__init__" p2) [e] [] p3) pos0 :: rest) scope [("__class__", cc)] dV kV doc pm an (.ref c) ct) ps sp := by
  refine ⟨len, fun A outer s H args us vs Q E hr e0 hb r hsp => ?_⟩
  have hl := len _ _ _ _ hsp
  have bk : ∀ b o, base.get? b = some o → s.heap.get? b = some o := fun b o e => (e0.bs b o e).1
  have KX : K.In s.heap := e0.mod.kin.keeps bk
  have lim : s.heap.NoLimit := e0.mod.nolimit.keeps bk
  obtain ⟨cl0, cld0, csl0, hcell⟩ := T.cell
  have CA : NdefX.CellsAt [(("__class__" : Str), cc)] ["__class__"] [none] s.heap H := by
    have bc := e0.mod.kin cc _ hcell
    have z := e0.bs cc _ bc
    have only : ∀ y c', ([(("__class__" : Str), cc)] : List (Str × Addr)).lookup y = some c' → y = "__class__" ∧ c' = cc := fun y c' h => by
      have m := PySem.mem_of_lookup h
      rcases List.mem_cons.mp m with q | q
      · injection q with q1 q2
        exact ⟨q1, q2⟩
      · cases q
    refine ⟨rfl, fun y c' h => ?_, fun x y c' h1 h2 => (only x c' h1).1.trans (only y c' h2).1.symm, fun i y h => ?_⟩
    · obtain ⟨_, rfl⟩ := only y c' h
      exact ⟨z.2, _, _, z.1, rfl⟩
    · cases i with
      | zero =>
        have e : "__class__" = y := Option.some.inj h
        subst e
        exact ⟨cc, by simp [List.lookup], fun v hv => by cases hv⟩
      | succ i => cases h
  obtain ⟨a, ta, t, h0, hHa, hPA, hPS, ht⟩ := hbody A outer s H vs Q E (hr.deeper _) hsp
  refine ks_codeAny_call_defAt (binds := ps.zip us) hr.depth (KX _ _ lk) rfl lim (PySem.W.codeRec_of KX hcd) rfl hb S.nocell (fun ⟨n, _⟩ hy => S.par n (List.of_mem_zip hy).1) (fun h₁ hns kp => ?_) S.co S.gen S.kind
  have I : Inv (NdefX.ncx CX0 P w K mg base N ⟨name, qual, params, [], scope, [("__class__", cc)], c⟩ f A outer s H E).nox [] (NdefX.startF N vs [none]) H { s with heap := h₁, toks := s.toks + (ps.zip us).length } :=
    (NdefX.inv_startN (F := ⟨name, qual, params, [], scope, [("__class__", cc)], c⟩) S hr.hd e0 hl r CA hns kp).wish _
  refine ks_wpAt_execs_cons (ks_wpAt_mono (sup_walk (X := (NdefX.ncx CX0 P w K mg base N ⟨name, qual, params, [], scope, [("__class__", cc)], c⟩ f A outer s H E).nox) (R := fun H1 => t { nx := fun _ H' => Q .non H', rt := Q } (NdefX.startF N vs [none]) H1)
    T I lk hp rfl rfl rfl hks (S.frk _ (by simp)) hN0 hl0 h0 hHa hPA ht (hst _) (hi _) (hsw _) (he _)) (fun fl s' z => ?_) fun _ _ z => z.elim)
  obtain ⟨rfl, H1, J, hR⟩ := z
  refine wpAt_of_wpAny (wpAny_mono (hPS.run [] s' _ H1 _ J hR) (fun fl s2 z => ?_) fun _ _ z => z.elim)
  have fin : ∀ {σ' : L2.St} {H' : Hp} {v : V} {u : Value}, Inv (NdefX.ncx CX0 P w K mg base N ⟨name, qual, params, [], scope, [("__class__", cc)], c⟩ f A outer s H E).nox [] σ' H' s2 → RelV v u → Q v H' → CE outer P w H s Q u s2 :=
    fun {σ' H' v u} J rv q => ⟨v, H', J.os, J.bare, J.base, J.hok, rv, q⟩
  cases fl with
  | ret u =>
    obtain ⟨v, σ', H', J, rv, q⟩ := z
    exact fin J rv q
  | next =>
    obtain ⟨σ', H', J, q⟩ := z
    exact fin (v := V.non) (u := Value.none) J rfl q
  | brk =>
    obtain ⟨_, _, _, q⟩ := z
    exact False.elim q
  | cont =>
    obtain ⟨_, _, _, q⟩ := z
    exact False.elim q
end Hs
namespace Hs
open PySem PySem.Spec PyProof.Rows L2 Evl
/-- C(), C's own __init__ keeping sp -/
theorem pmk_oex0 {X : Cx} {CX : CXT} {x : Str} {C fI : Addr} {k : Nat} {fd : FuncData} {ps : List Str} {sp : Sp} {ds : List Value} {dvs : List V} {p pos : Pos} (T : OexC X.K C) (iC : PySem.W.findIn X.K (.ref C) "__init__" = some (some (.ref fI))) (tI : PySem.W.typeIn X.K (.ref fI) = some (.type "function"))
    (F1 : FnOk X.prog X.w X.K X.mg X.base CX k fI fd ps sp) (hr : Room (k + 1) X.A) (hb : Binds X.K fd ps ds) (hd : Vals dvs ds) (hx : Passes CX X (fun _ _ _ => False)) (hg : Gl X x) (hm : X.mg x = some (.ref C))
    (hdb : (x == ("__debug__" : Str)) = false := by decide) : PMk X (.Call (.Name x p) [] [] pos) (tMkO C sp dvs tNil) := by
  intro pins s σ H Q I h
  obtain ⟨nm, q, N, bs, bm, sn, sub, ab, col, dd, k0, k1, k2, k3, k5, hC, hbm⟩ := T.cls
  refine wpAny_Call_Name_kw (ld_glob I hg hm ?_ hdb)
  refine PySem.W.callWith_K0 I.kIn T.kC ?_
  show wpAny _ _ (call (.ref C) []) _ _ _
  obtain ⟨hp, g, dr, tk, os⟩ := s
  have hsz : hp.objs.size ≤ hp.objs.size + 1 := Nat.le_succ _
  have hn : H (hp.objs.size + 1) = none := I.hok.fresh hsz
  have hq := h.2 (hp.objs.size + 1) hn
  have kk : ∀ b o, hp.get? b = some o → ((hp.push (PySem.W.kdv_tup [])).push (PySem.HandSPX.excO C hp.objs.size)).get? b = some o := fun b o e => Heap.get?_push_of_some _ (Heap.get?_push_of_some _ e)
  have hget : ((hp.push (PySem.W.kdv_tup [])).push (PySem.HandSPX.excO C hp.objs.size)).get? (hp.objs.size + 1) = some (PySem.HandSPX.excO C hp.objs.size) := by heap_get
  have I2 : Inv X pins σ (upd H (hp.objs.size + 1) (exo (hp.objs.size + 1) C none)) ⟨(hp.push (PySem.W.kdv_tup [])).push (PySem.HandSPX.excO C hp.objs.size), g, dr, tk, os⟩ :=
    I.laid (t' := tk) (a := hp.objs.size + 1) (o := exo (hp.objs.size + 1) C none) (h' := (hp.push (PySem.W.kdv_tup [])).push (PySem.HandSPX.excO C hp.objs.size)) kk hsz (exo_ok hget)
  have r2 : Vals (V.ref (hp.objs.size + 1) :: ([] ++ dvs)) ([Value.ref (hp.objs.size + 1)] ++ ds) := .cons rfl hd
  have hl : (Value.ref (hp.objs.size + 1) :: [] ++ ds).length = ps.length := by
    have e := r2.length
    rw [F1.len _ _ _ _ hq] at e
    exact e.symm
  refine wpAny_call (PySem.HandSPX.call_own F.excBase_ValueError (fun Y => PySem.HandSPX.refsVE_contains Y bm hbm) (I.kIn _ _ hC) (PySem.W.looks_findIn I.kIn iC) (fun self => PySem.W.bind_fn I.kIn self tI) (Nat.zero_le _)
    (codeAny_mono (F1.run _ X.stack _ _ ⟨[Value.ref (hp.objs.size + 1)], []⟩ ([Value.ref (hp.objs.size + 1)] ++ ds) _ _ (fun _ _ _ => False) (hr.make C [] []) (I2.env0.make C [] []) (hb _ [Value.ref (hp.objs.size + 1)] I2.kIn hl) r2 hq) fun r s' hq' => ?_))
  cases r with
  | error er => exact hx pins σ _ _ er s' I2 hq'
  | ok fl =>
    cases fl with
    | ret u =>
      obtain ⟨v, H2, os2, bare2, un2, hok2, rv, ev, d, fs, ea, ed, hd1, q2⟩ := hq'
      subst ev
      obtain ⟨h2, g2, d2, t2, os'⟩ := s'
      exact ⟨rv, mk_end (raises_own T.exC T.tyC) I hsz kk un2 hok2 os2 bare2 ea ed hd1 q2⟩
    | next => exact False.elim hq'
    | brk => exact False.elim hq'
    | cont => exact False.elim hq'
/-- __init__ of an error with its word alone -/
def spErr (C : Addr) (wd : Str) : Sp := fun vs H Q _ => ∃ (a : Addr) (y : V), vs = [.ref a, y] ∧ H a = some (exo a C none) ∧ ∀ dx, H dx = none → dx ≠ a → Q .non (upd (upd H dx (exd dx [("word", .str wd)])) a (exo a C (some dx)))
/-- raise C(): the word in the error's own dict -/
theorem mk_err {C : Addr} {wd : Str} {y : V} {σ : L2.St} {H : Hp} {Q : XK} (h : ∀ d H', Ex H H' → H d = none → H' d = some (.xd [("word", .str wd)]) → Q (.ref C) (some d) H') : tMkO C (spErr C wd) [y] tNil σ H Q := by
  refine ⟨Nat.zero_le _, fun a na => ⟨a, y, rfl, upd_same, fun dx nd ne => ⟨rfl, dx, [("word", .str wd)], upd_same, ?_, ?_, ?_⟩⟩⟩
  · rw [upd_ne ne, upd_same]
  · rw [upd_ne ne] at nd
    exact nd
  · have nd' : H dx = none := by
      rw [upd_ne ne] at nd
      exact nd
    refine h dx _ (fun b o e => ?_) nd' upd_same
    have nb : b ≠ dx := ne_of_none e nd'
    have na' : b ≠ a := ne_of_none e na
    rw [upd_ne nb, del_ne na', upd_ne na', upd_ne nb, upd_ne na']
    exact e
end Hs
namespace Hs
open PySem PySem.Spec PyProof.Rows L2 Evl
/-- an own error class x at C with the word wd alone, as it stands -/
structure ErrF (P : Program) (w : World) (K : PySem.W.Frag) (mg : Str → Option Value) (base : Heap) (k : Nat) (x : Str) (C : Addr) (wd : Str) : Prop where
  ox : OexC K C
  gx : mg x = some (.ref C)
  ini : ∃ (fI : Addr) (fd : FuncData) (ps : List Str) (y : V) (d : Value), PySem.W.findIn K (.ref C) "__init__" = some (some (.ref fI)) ∧ PySem.W.typeIn K (.ref fI) = some (.type "function") ∧ FnOk P w K mg base CX0 k fI fd ps (spErr C wd) ∧ RelV y d ∧ Binds K fd ps [d]
theorem pmk_err {X : Cx} {k j : Nat} {x : Str} {C : Addr} {wd : Str} {p pos : Pos} (Er : ErrF X.prog X.w X.K X.mg X.base k x C wd) (hr : Room j X.A) (hk : k + 1 ≤ j) (hg : Gl X x) (hdb : (x == ("__debug__" : Str)) = false := by decide) :
    PMk X (.Call (.Name x p) [] [] pos) (fun _ H Q => ∀ d H', Ex H H' → H d = none → H' d = some (.xd [("word", .str wd)]) → Q (.ref C) (some d) H') := by
  obtain ⟨fI, fd, ps, y, d, h1, h2, h3, h4, h5⟩ := Er.ini
  intro pins s σ H Q I h
  exact pmk_oex0 Er.ox h1 h2 h3 (hr.mono hk) h5 (.cons h4 .nil) (fun _ _ _ _ _ _ _ z => z.elim) hg Er.gx hdb pins s σ H Q I (mk_err h)
/-- the def st of a class's body, closed over __class__ at cc, its code object at c -/
def InitAt (K : PySem.W.Frag) (qual : Str) (st : Stmt) (f c cc : Addr) (dvs : List V) (fd : FuncData) : Prop :=
  ∃ (oc : Value) (od : Option Addr) (dV kV doc pm : Value) (an : Option Addr) (ct : Value) (osl : Array (Option Value)), fd = PySem.W.fnX "__init__" qual (defArgs st) (defBody st) (defScope st) [("__class__", cc)] dV kV doc pm an (.ref c) ct ∧
    K.lookup f = some ⟨oc, od, .func fd, osl⟩ ∧ PySem.W.codeIn K (.ref c) qual = true ∧ DflV K dV dvs
/-- __init__(self, why=..): super().__init__(why); self.word = '..' -/
theorem err_ok {P : Program} {w : World} {K : PySem.W.Frag} {mg : Str → Option Value} {base : Heap} {C f c cc : Addr} {fd : FuncData} {qual wd : Str} {st : Stmt} {y : V} {p0 p1 p2 p3 p4 pos0 p5 p6 p7 p8 : Pos} {kd : Nat} {ar : Arg} (T : SupC P K mg C c cc) (I0 : InitAt K qual st f c cc [y] fd)
    (hno : PySem.W.findIn K (.ref C) "word" = some none)
    (hbd : defBody st = [.Expr (.Call (.Attribute (.Call (.Name "super" p0) [] [] p1) "__init__" p2) [.Name "why" p4] [] p3) pos0, .Assign [.Attribute (.Name "self" p5) "word" p6] (.Constant (.str wd) kd p7) p8])
    (S : NdefX.NScope ["self", "why", "__class__"] ["self", "why"] ["__class__"] (defScope st)) (hks : (defScope st).names.lookup ("super" : Str) = some .globalImplicit)
    (hp : ((defArgs st).posonlyargs ++ (defArgs st).args).head? = some ar) (har : ar.arg = "self") (hl0 : (defScope st).names.lookup ("self" : Str) = some .local) (hl1 : (defScope st).names.lookup ("why" : Str) = some .local) {pl : Addr → Sem Bool}
    (hi : ∀ L : Addr, interactive (NdefX.envF ⟨"__init__", qual, defArgs st, [], defScope st, [("__class__", cc)], c⟩ f L) = false)
    (hsw : ∀ L : Addr, swapsWith (.Call (.Attribute (.Call (.Name "super" p0) [] [] p1) "__init__" p2) [.Name "why" p4] [] p3) none pos0.line (NdefX.envF ⟨"__init__", qual, defArgs st, [], defScope st, [("__class__", cc)], c⟩ f L) = pure false)
    (hs2 : ∀ L : Addr, swapsWith (.Constant (.str wd) kd p7) (some (.Attribute (.Name "self" p5) "word" p6)) p8.line (NdefX.envF ⟨"__init__", qual, defArgs st, [], defScope st, [("__class__", cc)], c⟩ f L) = pure false)
    (he : ∀ L : Addr, eval (.Call (.Attribute (.Call (.Name "super" p0) [] [] p1) "__init__" p2) [.Name "why" p4] [] p3) (NdefX.envF ⟨"__init__", qual, defArgs st, [], defScope st, [("__class__", cc)], c⟩ f L) = (do
      let ov ← attributeBase (.Call (.Name "super" p0) [] [] p1) "__init__" (NdefX.envF ⟨"__init__", qual, defArgs st, [], defScope st, [("__class__", cc)], c⟩ f L) (eval (.Call (.Name "super" p0) [] [] p1) (NdefX.envF ⟨"__init__", qual, defArgs st, [], defScope st, [("__class__", cc)], c⟩ f L))
      standAt p2.atName
      let (ff, first) ← holding [ov] (getMethod ov "__init__" (pl L))
      callWith p3 ff first (backTo p3 (starEach [.Name "why" p4] (NdefX.envF ⟨"__init__", qual, defArgs st, [], defScope st, [("__class__", cc)], c⟩ f L))) []))
    (hst : ∀ env : Env, starEach [.Name "why" p4] env = [(false, eval (.Name "why" p4) env)]) :
    FnOk P w K mg base CX0 1 f fd ["self", "why"] (spErr C wd) := by
  obtain ⟨oc, od, dV, kV, doc, pm, an, ct, osl, rfl, lk, hcd, _⟩ := I0
  rw [hbd] at lk ⊢
  refine sup_ok (k := 0) (N := ["self", "why", "__class__"]) T lk hcd S hks hp (by rw [har] <;> rfl) (by rw [har]; exact hl0) (fun vs H Q E h => ?_) (fun A outer s H vs Q E hr h => ?_) hst hi hsw he
  · obtain ⟨a, y, rfl, _⟩ := h
    rfl
  · obtain ⟨a, y, rfl, ha, k⟩ := h
    refine ⟨a, tCons (tVar 1) tNil, tOst K "word" (tVar 0) (tC (.str wd)), rfl, ha, pa_cons (pv 1 rfl (.inl hl1)) pa_nil (hst _), pss_one (ps_ost (pv 0 rfl (.inl hl0)) pe_str (hs2 _)), ?_⟩
    exact ⟨y, rfl, Nat.succ_le_succ (Nat.zero_le _), ha, .ref a, rfl, a, C, rfl, T.ox, hno, .inl ⟨ha, fun dx n ne => k dx n ne⟩⟩
end Hs
namespace Hs
open PySem PySem.Spec PyProof.Rows L2 Evl
/-! ### try with several clauses, each with a name -/
theorem flyZ_kept {base : Heap} {l : List Env} {e : Addr} {Z : Obj → Prop} {h h' : Heap} (k : ∀ b o, h.get? b = some o → h'.get? b = some o) (f : HandSPX.FlyingZ base l e Z h) : HandSPX.FlyingZ base l e Z h' := by
  obtain ⟨f1, f2, f3, oe, vs, T, oT, ts, h1, h2, h3, h4, h5, h6, h7, h8, h9⟩ := f
  exact ⟨fun b o z => k b o (f1 b o z), f2, f3.of_keeps fun b o z _ => ⟨o, k b o z, rfl⟩, oe, vs, T, oT, ts, k _ _ h1, h2, h3, h4, h5, h6, k _ _ h7, h8, h9⟩
/-- the classes that a clause names: r tells of a class whether it is one of theirs -/
def TestOk (X : Cx) (t : Expr) (r : Value → Option Bool) : Prop :=
  ∀ (a : Addr) (oe : Obj) (pn : List (Addr × Obj)) (σ : L2.St) (H : Hp) (s : Shared), Inv (X.suite a ((a, oe) :: pn)) [] σ H s → ∀ (cls : Value) (b : Bool), r cls = some b → PySem.W.Looks (model X.prog X.w) s.heap (typeOf (.ref a)) cls →
    ∀ (Q : Bool → Shared → Prop) (E : Value → Shared → Prop), (∀ h', (∀ b o, s.heap.get? b = some o → h'.get? b = some o) → Q b { s with heap := h' }) →
      wpAny (model X.prog X.w) (X.A.mark (some (.ref a))) (eval t X.env) (fun c s₁ => wpAny (model X.prog X.w) (X.A.mark (some (.ref a))) (excMatches (.ref a) c) Q E s₁) E s
theorem ld_cls {X : Cx} {x : Str} {c : Value} {np : Pos} (hc : Names X x c) {a : Addr} {oe : Obj} {pn : List (Addr × Obj)} {σ : L2.St} {H : Hp} {s : Shared} (I : Inv (X.suite a ((a, oe) :: pn)) [] σ H s) {Q : Value → Shared → Prop} {E : Value → Shared → Prop} (q : Q c s) :
    wpAny (model X.prog X.w) (X.A.mark (some (.ref a))) (eval (.Name x np) X.env) Q E s := by
  obtain ⟨hg, hdbg, hm | ⟨hm, hv, hnn⟩⟩ := hc
  · exact ld_glob (X := X.suite a ((a, oe) :: pn)) I hg hm q hdbg
  · exact ld_blt (X := X.suite a ((a, oe) :: pn)) I hg hm hv q hnn hdbg
theorem test_one {X : Cx} {x : Str} {c : Value} {np : Pos} (hc : Names X x c) : TestOk X (.Name x np) (fun cls => PySem.W.exmOne X.K cls c) := by
  intro a oe pn σ H s I cls b hb LT Q E q
  exact ld_cls hc I ((PySem.W.exm_one (M := model X.prog X.w) I.kIn LT hb).here (q s.heap fun _ _ z => z))
theorem test_two {X : Cx} {x y : Str} {c1 c2 : Value} {np nq pos : Pos} {k : Nat} (hc : Names X x c1) (hd : Names X y c2)
    (hs1 : starEach [.Name x np, .Name y nq] X.env = [(false, eval (.Name x np) X.env), (false, eval (.Name y nq) X.env)] := by rfl) : TestOk X (.Tuple [.Name x np, .Name y nq] k pos) (fun cls => PySem.W.exmAny X.K cls [c1, c2]) := by
  intro a oe pn σ H s I cls b hb LT Q E q
  refine wpAny_Tuple_spliced ?_
  rw [hs1]
  show wpAny _ _ (spliced ((false, eval (.Name x np) X.env) :: (false, eval (.Name y nq) X.env) :: backTo pos [])) _ _ s
  refine Calls.spliced_cons (ld_cls hc I (Calls.spliced_cons (ld_cls hd I (Calls.spliced_nil ?_))))
  refine ⟨by show 2 ≤ sizeLine; decide, ?_⟩
  have kp : ∀ b o, s.heap.get? b = some o → (s.heap.push { cls := .type "tuple", data := .seq [c1, c2].toArray }).get? b = some o := fun b o z => Heap.get?_push_of_some _ z
  exact (PySem.W.exm_tup2 (M := model X.prog X.w) (I.kIn.keeps kp) (LT.keeps kp) (Heap.get?_push_size _ rfl) hb).here (q _ kp)
theorem test_three {X : Cx} {x y z : Str} {c1 c2 c3 : Value} {np nq nr pos : Pos} {k : Nat} (hc : Names X x c1) (hd : Names X y c2) (he : Names X z c3)
    (hs1 : starEach [.Name x np, .Name y nq, .Name z nr] X.env = [(false, eval (.Name x np) X.env), (false, eval (.Name y nq) X.env), (false, eval (.Name z nr) X.env)] := by rfl) : TestOk X (.Tuple [.Name x np, .Name y nq, .Name z nr] k pos) (fun cls => PySem.W.exmAny X.K cls [c1, c2, c3]) := by
  intro a oe pn σ H s I cls b hb LT Q E q
  refine wpAny_Tuple_spliced ?_
  rw [hs1]
  show wpAny _ _ (spliced ((false, eval (.Name x np) X.env) :: (false, eval (.Name y nq) X.env) :: (false, eval (.Name z nr) X.env) :: backTo pos [])) _ _ s
  refine Calls.spliced_cons (ld_cls hc I (Calls.spliced_cons (ld_cls hd I (Calls.spliced_cons (ld_cls he I (Calls.spliced_nil ?_))))))
  refine ⟨by show 3 ≤ sizeLine; decide, ?_⟩
  have kp : ∀ b o, s.heap.get? b = some o → (s.heap.push { cls := .type "tuple", data := .seq [c1, c2, c3].toArray }).get? b = some o := fun b o z => Heap.get?_push_of_some _ z
  exact (PySem.W.exm_tup3 (M := model X.prog X.w) (I.kIn.keeps kp) (LT.keeps kp) (Heap.get?_push_size _ rfl) hb).here (q _ kp)
end Hs
namespace Hs
open PySem PySem.Spec PyProof.Rows L2 Evl
/-- what the clauses wish of an exception of the body, one after the other; slot i is the clauses' name -/
def wManyA (i m : Nat) (Wout : WX) (D : Ends) : List ((Value → Option Bool) × (Addr → Value → Option Addr → TS)) → WX
  | [] => Wout
  | (r, ts) :: l => fun cls d σ H => ∃ b, r cls = some b ∧ (b = true → σ.length = m → ∀ a, H a = none → ts a cls d { nx := fun σ' H' => D.nx (σ'.set i none) H', rt := D.rt, bk := fun σ' H' => D.bk (σ'.set i none) H', ct := fun σ' H' => D.ct (σ'.set i none) H' } (σ.set i (some (.ref a))) H) ∧
      (b = false → wManyA i m Wout D l cls d σ H)
inductive HdsA (X : Cx) (n : Str) : List ExceptHandler → List ((Value → Option Bool) × (Addr → Value → Option Addr → TS)) → Prop
  | nil : HdsA X n [] []
  | cons {t : Expr} {r : Value → Option Bool} {ts : Addr → Value → Option Addr → TS} {b₀ : Stmt} {suite : List Stmt} {pos' : Pos} {hds : List ExceptHandler} {l : List ((Value → Option Bool) × (Addr → Value → Option Addr → TS))} (hc : TestOk X t r)
      (hsu : ∀ (a : Addr) (oe : Obj) (cls : Value) (d : Option Addr) (pn : List (Addr × Obj)), Zc cls d oe → (∃ vs, oe.data = .fields vs) → PSs (X.suite a ((a, oe) :: pn)) (b₀ :: suite) (ts a cls d)) (rest : HdsA X n hds l) :
      HdsA X n (.ExceptHandler (some t) (some n) (b₀ :: suite) pos' :: hds) ((r, ts) :: l)
theorem ps_try_manyA {X : Cx} {n : Str} {i : Nat} {body : List Stmt} {h₀ : ExceptHandler} {hds : List ExceptHandler} {l : List ((Value → Option Bool) × (Addr → Value → Option Addr → TS))} {pos : Pos} {tb : WX → TS} {Wout : WX}
    (hs : X.stack = X.env :: X.outer) (hf : X.env.frame = some X.env.locals) (hN : X.N.Nodup) (hi : X.N[i]? = some n) (hln : X.env.kindOf n = some .local) (tk : Takes X Wout)
    (hb : ∀ (W : WX) (pn : List (Addr × Obj)) (xe : Value → Shared → Prop), Takes (X.tr pn xe) W → PassesOwn (model X.prog X.w) X.A X.env xe → PSs (X.tr pn xe) body (tb W))
    (hh : HdsA X n (h₀ :: hds) l) : PS X (.Try body (h₀ :: hds) [] [] pos) (fun D σ H => tb (wManyA i X.N.length Wout D l) D σ H) := by
  refine ⟨fun pins s σ H D I h => ?_⟩
  have ok := I.ok
  have hfr : X.A.frames = some (X.env :: X.outer) := by rw [ok.frames, hs]
  have hloc : Loc X.env.scope n := .inl hln
  refine wpAny_Try_except ?_
  refine wpAny_mono ((hb (wManyA i X.N.length Wout D l) (X.pn ++ pins) (fun e s₁ => wpAny (model X.prog X.w) X.A (noteFrame e X.env) (fun _ s₂ => wpAny (model X.prog X.w) X.A (setFlight e none) (fun _ s₃ =>
    wpAny (model X.prog X.w) X.A (handleBy e X.env (h₀ :: hds)) (SP X pins D) X.xe s₃) X.xe s₂) X.xe s₁) (fun u s' xx => ?_) PassesOwn.looking).run [] s σ H D (I.toTry _) h) (fun f s1 hsp => ?_) (fun e s1 he => he)
  · obtain ⟨a, B, sI, pins', σ', H', cls, d, rfl, J', nb, up, sky, na, os, ag, w⟩ := xx
    have J : Inv X pins σ' H' sI := J'.ofTry ok
    have sky' : Sky B (X.env :: X.outer) a (Zc cls d) X.env.locals s'.heap := by rw [← hs]; exact sky
    show wpAny (model X.prog X.w) X.A (noteFrame (.ref a) X.env) _ _ _
    refine Sky.land Zc.steady hfr hf sky' fun h3 fl3 up3 => ?_
    have notFr : ∀ {h : Heap} {o : Obj} {vs : Array Value}, h.FunFrames B (X.env :: X.outer) → h.get? a = some o → o.data = .fields vs → a ∉ frs (X.env :: X.outer) := fun {h o vs} ff e dd hm => by
      obtain ⟨_, o', e', hnf⟩ := ff.mem hm
      rw [e] at e'; cases e'
      exact hnf _ dd
    have go : ∀ {hds' : List ExceptHandler} {l' : List ((Value → Option Bool) × (Addr → Value → Option Addr → TS))}, HdsA X n hds' l' → wManyA i X.N.length Wout D l' cls d σ' H' → ∀ h3, HandSPX.FlyingZ B (X.env :: X.outer) a (Zc cls d) h3 → sI.heap.UpToSlots h3 →
        wpAny (model X.prog X.w) X.A (handleBy (.ref a) X.env hds') (SP X pins D) X.xe { s' with heap := h3 } := by
      intro hds' l' hk
      induction hk with
      | nil =>
        intro w h3 fl3 up3
        refine wpAny_handleBy_nil ?_
        obtain ⟨k1, k2, k3, oe, vs, T, oT, ts', he, hz, hd, h1, hr⟩ := id fl3
        unfold PySem.passOn
        refine wpAny_bind (wpAny_field he hd h1 ?_)
        rw [if_neg (show ¬ ((Value.ref T == Value.none) = true) from by simp)]
        have fin : wpAny (model X.prog X.w) X.A (setFlight (.ref a) X.env.frame) (fun _ s4 => wpAny (model X.prog X.w) X.A (throw (.ref a) : Sem Flow) (SP X pins D) X.xe s4) X.xe { s' with heap := h3 } := by
          rw [hf]
          refine HandSPX.setFlight_upZ fl3 fun h4 hh4 up4 => wpAny_throw (tk _ _ ?_)
          exact ⟨a, B, sI, pins, σ', H', cls, d, rfl, J, nb, up3.trans up4, .inr (.inr (by rw [hs]; exact hh4)), na, os, ag, w⟩
        first
          | exact wpAny_bind (wpAny_pure (wpAny_bind fin))
          | exact wpAny_bind fin
      | @cons t r ts b₀ suite pos' hds2 l2 hc hsu rest ih =>
        intro w h3 fl3 up3
        obtain ⟨b, hb1, hyes, hno⟩ := w
        have J3 : Inv X pins σ' H' { s' with heap := h3 } := J.landed nb fl3.1 up3 os ag
        obtain ⟨oe3, vs3, he3, hz3, hd3⟩ := fl3.there
        have nfr := notFr fl3.2.2.1 he3 hd3
        have nL : a ≠ X.env.locals := fun z => nfr (List.mem_filterMap.mpr ⟨X.env, List.mem_cons_self, by rw [hf, z]⟩)
        have nF : a ∉ X.fs := fun hm => by
          obtain ⟨e, he, q⟩ := List.mem_filterMap.mp hm
          exact nfr (List.mem_filterMap.mpr ⟨e, List.mem_cons_of_mem _ he, q⟩)
        have S3 := J3.suite he3 hd3 na nL nF
        refine wpAny_handleBy_cons (codeAny_handlers_test ?_) (by intro q; cases q)
        have LT : PySem.W.Looks (model X.prog X.w) h3 (typeOf (.ref a)) cls := fun A Q E s k q => wpAny_typeOf_ref (k _ _ he3) (by rw [hz3.1]; exact q)
        refine hc a oe3 (X.pn ++ pins) σ' H' _ S3 cls b hb1 LT _ _ fun h4 kp4 => ?_
        have fl4 := flyZ_kept kp4 fl3
        have up4 : sI.heap.UpToSlots h4 := up3.trans (Heap.UpToSlots.of_keeps kp4)
        cases b with
        | true =>
          refine codeAny_handlers_suite_as ?_
          refine HandSPX.lands_againZ fl4 fun h5 fl5 up5 => ?_
          have J5 : Inv X pins σ' H' { s' with heap := h5 } := J.landed nb fl5.1 (up4.trans up5) os ag
          obtain ⟨oe5, vs5, he5, hz5, hd5⟩ := fl5.there
          have S5 := J5.suite he5 hd5 na nL nF
          refine store_ok (X := X.suite a ((a, oe5) :: (X.pn ++ pins))) (v := .ref a) S5 hN hi hloc rfl (fun s6 S6 => ?_) (.inr hln)
          refine wpAny_mono ((hsu a oe5 cls d (X.pn ++ pins) hz5 ⟨_, hd5⟩).run [] s6 _ H' _ S6 (hyes rfl J.len a na)) (fun f s6 hsp => ?_) (fun _ _ z => False.elim z)
          have end_ : ∀ {σ6 : L2.St} {H6 : Hp} {Q : Shared → Prop}, Inv (X.suite a ((a, oe5) :: (X.pn ++ pins))) [] σ6 H6 s6 → (∀ s7, Inv X pins (σ6.set i none) H6 s7 → Q s7) →
              wpAny (model X.prog X.w) X.A (do bindName X.env n .none; unbindBehindTheSuite X.env n pos') (fun _ s7 => Q s7) X.xe s6 := fun {σ6 H6 Q} S6 hq => gone_ok (S6.unsuite ok) hN hi hln hq
          cases f with
          | next =>
            obtain ⟨σ6, H6, S6, q6⟩ := hsp
            exact end_ S6 fun s7 J7 => ⟨_, _, J7, q6⟩
          | brk =>
            obtain ⟨σ6, H6, S6, q6⟩ := hsp
            exact end_ S6 fun s7 J7 => ⟨_, _, J7, q6⟩
          | cont =>
            obtain ⟨σ6, H6, S6, q6⟩ := hsp
            exact end_ S6 fun s7 J7 => ⟨_, _, J7, q6⟩
          | ret u =>
            obtain ⟨v6, σ6, H6, S6, r6, q6⟩ := hsp
            exact end_ S6 fun s7 J7 => ⟨_, _, _, J7, r6, q6⟩
        | false =>
          show wpAny _ X.A (handleBy (.ref a) X.env hds2) _ _ _
          exact ih (hno rfl) h4 fl4 up4
    exact go hh w h3 fl3 (up.trans up3)
  · cases f with
    | next =>
      obtain ⟨σ', H', J', q⟩ := hsp
      exact wpAny_execs_nil ⟨σ', H', J'.ofTry ok, q⟩
    | brk =>
      obtain ⟨σ', H', J', q⟩ := hsp
      exact ⟨σ', H', J'.ofTry ok, q⟩
    | cont =>
      obtain ⟨σ', H', J', q⟩ := hsp
      exact ⟨σ', H', J'.ofTry ok, q⟩
    | ret u =>
      obtain ⟨v, σ', H', J', r, q⟩ := hsp
      exact ⟨v, σ', H', J'.ofTry ok, r, q⟩
end Hs
namespace Hs
open PySem PySem.Spec PyProof.Rows L2 Evl
/-- e.n in an except suite, whatever own class the error has -/
def tXfA (K : PySem.W.Frag) (a : Addr) (cls : Value) (d : Option Addr) (n : Str) (te : TE) : TE := fun σ H Q => te σ H fun x H1 => x = .ref a ∧ ∃ C : Addr, cls = .ref C ∧ XfC K C ∧ PySem.W.findIn K (.ref C) n = some none ∧
  ∃ (dd : Addr) (fs : List (Str × V)) (v : V), d = some dd ∧ H1 dd = some (.xd fs) ∧ fs.lookup n = some v ∧ Q v H1
theorem pe_xfA {X : Cx} {a : Addr} {oe : Obj} {cls : Value} {d : Option Addr} {pn : List (Addr × Obj)} {e : Expr} {te : TE} {pos : Pos} {n : Str} (hz : Zc cls d oe) (hf : ∃ vs, oe.data = .fields vs) (he : PE (X.suite a ((a, oe) :: pn)) e te)
    (hb : attributeBase e n X.env (eval e X.env) = eval e X.env := by rfl) : PE (X.suite a ((a, oe) :: pn)) (.Attribute e n pos) (tXfA X.K a cls d n te) := by
  refine ⟨fun pins s σ H Q I h => ?_⟩
  refine attr_of hb (thn (he.run pins s σ H _ I h) fun u s1 hh => ?_)
  obtain ⟨x, H1, I1, rx, ex, C, ec, T, hno, dd, fs, v, ed, ea, l, q⟩ := hh
  subst ex
  obtain rfl : u = Value.ref a := rx
  subst ec
  subst ed
  obtain ⟨ha, _⟩ := I1.pin (a, oe) (List.mem_append_left _ List.mem_cons_self)
  obtain ⟨vs, hd⟩ := hf
  have hx : ObjOk X.prog X.w H1 s1.heap dd (.xd fs) := I1.hok dd _ ea
  obtain ⟨mA, hns, hr⟩ := hx
  obtain ⟨od, ho, hl⟩ := lookIn_ns hns
  obtain ⟨u, hu, ru⟩ := RelO.some_of (v := v) (o := mA n) (by rw [← l]; exact hr n)
  have J : PySem.W.InstAt s1.heap a oe C (some od) := ⟨ha, hz.1, by unfold PySem.W.notCls; rw [hd] <;> rfl, by rw [hz.2]; exact ho⟩
  exact HandSPX.exc_get I1.kIn J T.ga T.gg T.exC (PySem.W.findObj_own T.hdC hno rfl (by rw [hl, hu])) (handed_of ru) ⟨v, H1, I1.tok _, ru, q⟩
/-- the classes that the law's own catcher names -/
structure Cats (mg : Str → Option Value) (cN cL cK cB cS cM cC : Addr) : Prop where
  n : mg "NoThing" = some (.ref cN)
  l : mg "NoLook" = some (.ref cL)
  k : mg "Looked" = some (.ref cK)
  b : mg "BadText" = some (.ref cB)
  s : mg "ShadeError" = some (.ref cS)
  m : mg "Missing" = some (.ref cM)
  c : mg "Crowded" = some (.ref cC)
/-- an error class that only the last clause takes, with its word -/
structure Word (K : PySem.W.Frag) (C cN cL cK cB cS cM cC : Addr) : Prop where
  n : PySem.W.exmOne K (.ref C) (.ref cN) = some false
  l : PySem.W.exmAny K (.ref C) [.ref cL, .ref cK] = some false
  b : PySem.W.exmOne K (.ref C) (.ref cB) = some false
  s : PySem.W.exmAny K (.ref C) [.ref cS, .ref cM, .ref cC] = some true
  xf : XfC K C
  no : PySem.W.findIn K (.ref C) "word" = some none
/-- what the catcher makes of what it calls: ('told', v), or the word of an error -/
def TTr (K : PySem.W.Frag) (cN cL cK cB cS cM cC : Addr) : (XK → Hp → VK → Prop) → Hp → VK → Prop := fun tl H Q =>
  tl (fun cls d H' => ∃ (C dd : Addr) (fs : List (Str × V)) (wd : Str), cls = .ref C ∧ d = some dd ∧ Word K C cN cL cK cB cS cM cC ∧ H' dd = some (.xd fs) ∧ fs.lookup ("word" : Str) = some (V.str wd) ∧ ∀ p, H' p = none → Q (.ref p) (upd H' p (.tup [.str wd]))) H
    (fun v H1 => ([V.str "told", v] : List V).length ≤ sizeLine ∧ ∀ p, H1 p = none → Q (.ref p) (upd H1 p (.tup [.str "told", v])))
abbrev sTried : Stmt := top 23
theorem scTried : FnScope ["_law_act", "e"] ["_law_act"] (defScope sTried) := ⟨rfl, rfl, rfl, by decide +kernel, rfl, by decide +kernel, by decide +kernel⟩
theorem tried_gives {X : Cx} {q : Str} {g : Addr} {cdg : Value} {cN cL cK cB cS cM cC : Addr} (ct : Cats X.mg cN cL cK cB cS cM cC) :
    LamX.GivesTo X ["_law_act", "e"] "_law_tried" (defScope sTried) g cdg (defBody sTried) "_law_act" q (TTr X.K cN cL cK cB cS cM cC) := by
  intro f c' s H Q tl act hc h
  have nd := scTried.nd
  refine ⟨_, pss_one (ps_try_manyA (i := 1) (n := "e") (X := (cxOf C8.CX0 X.prog X.w X.K X.mg X.base ["_law_act", "e"] "_law_tried" (defScope sTried) g cdg X.A X.stack s H C8.E0).nox)
      (tb := fun W D σ H => ∃ Ech : XK, (∀ cls d σ' H', Ech cls d H' → W cls d σ' H') ∧ σ[0]? = some (some (.ref f)) ∧ H c' = some (LamX.CodeO c' q) ∧ tl Ech H (fun v H1 => ([V.str "told", v] : List V).length ≤ sizeLine ∧ ∀ p, H1 p = none → D.rt (.ref p) (upd H1 p (.tup [.str "told", v]))))
      rfl rfl nd rfl rfl LamX.takes0 (fun W pn xe tk _ => ?_)
      (.cons (test_one ⟨rfl, by decide, .inl ct.n⟩) (fun a oe cls d pn hz hf => pss_one (ps_ret (pe_tup (pa_cons (pe_xfA hz hf (pv 1)) (pa_cons (pe_xfA hz hf (pv 1)) (pa_cons (pe_xfA hz hf (pv 1)) pa_nil))))))
      (.cons (test_two ⟨rfl, by decide, .inl ct.l⟩ ⟨rfl, by decide, .inl ct.k⟩) (fun a oe cls d pn hz hf => pss_one (ps_ret (pe_tup (pa_cons (pe_xfA hz hf (pv 1)) (pa_cons (pe_xfA hz hf (pv 1)) pa_nil)))))
      (.cons (test_one ⟨rfl, by decide, .inl ct.b⟩) (fun a oe cls d pn hz hf => pss_one (ps_ret (pe_tup (pa_cons (pe_xfA hz hf (pv 1)) (pa_cons (pe_xfA hz hf (pv 1)) pa_nil)))))
      (.cons (test_three ⟨rfl, by decide, .inl ct.s⟩ ⟨rfl, by decide, .inl ct.m⟩ ⟨rfl, by decide, .inl ct.c⟩) (fun a oe cls d pn hz hf => pss_one (ps_ret (pe_tup (pa_cons (pe_xfA hz hf (pv 1)) pa_nil)))) .nil))))), ?_⟩
  · refine ⟨fun pins s' σ H' D I h' => ?_⟩
    obtain ⟨Ech, hW, h1, h2, h3⟩ := h'
    exact (pss_one (ps_ret (pe_tup (pa_cons pe_str (pa_cons (act W pn xe Ech _ _ tk hW) pa_nil))))).run pins s' σ H' D I ⟨h1, h2, h3⟩
  · refine ⟨_, ?_, rfl, hc, h⟩
    rintro cls d σ' H' ⟨C, dd, fs, wd, rfl, rfl, wc, hx, hl, k⟩
    refine ⟨false, wc.n, fun z => Bool.noConfusion z, fun _ => ⟨false, wc.l, fun z => Bool.noConfusion z, fun _ => ⟨false, wc.b, fun z => Bool.noConfusion z, fun _ => ⟨true, wc.s, fun _ hlen a na => ?_, fun z => Bool.noConfusion z⟩⟩⟩⟩
    have h1 : 1 < σ'.length := by
      rw [hlen]
      show 1 < 2
      decide
    exact ⟨.ref a, List.getElem?_set_self h1, rfl, C, rfl, wc.xf, wc.no, dd, fs, _, rfl, hx, hl, sz_of (by simp), fun p hp => k p hp⟩
end Hs
namespace Hs
open PySem PySem.Spec PyProof.Rows L2 LamX NdefX
/-! ### functions by a lambda as values: kept anywhere, called frames deeper while their maker's frame rests -/
/-- a lambda's function: its cells cl, its code object c -/
structure LF where
  qual : Str
  params : Arguments
  body : Expr
  scope : Scope
  cl : List (Str × Addr)
  c : Addr
def LF.nf (F : LF) : NF := ⟨"<lambda>", F.qual, F.params, [], F.scope, F.cl, F.c⟩
/-- the object at f is the function F -/
def LamO (f : Addr) (F : LF) : HO := .ext fun h => ∃ pm ctv : Value, h.get? f = some (PySem.W.kla_obj "<lambda>" F.qual F.params F.body F.scope F.cl pm F.c ctv)
theorem lamO_ne {f : Addr} {F : LF} (ps : Array Value) : LamO f F ≠ .tbl ps := fun z => by
  unfold LamO at z
  cases z
theorem lamO_at {P : Program} {w : World} {H : Hp} {h : Heap} {f : Addr} {F : LF} (hok : HOk P w H h) (e : H f = some (LamO f F)) : ∃ pm ctv : Value, h.get? f = some (PySem.W.kla_obj "<lambda>" F.qual F.params F.body F.scope F.cl pm F.c ctv) := by
  obtain ⟨z, _, _⟩ := hok f _ e
  exact z
section
variable {X : Cx} {pins : List (Addr × Obj)} {σ : L2.St} {H : Hp} {s : Shared}
theorem inv_lam {F : LF} {t' : Nat} {pm ctv : Value} (I : Inv X pins σ H s) :
    Inv X pins σ (upd H s.heap.objs.size (LamO s.heap.objs.size F)) { s with heap := s.heap.push (PySem.W.kla_obj "<lambda>" F.qual F.params F.body F.scope F.cl pm F.c ctv), toks := t' } := by
  have e : (s.heap.push (PySem.W.kla_obj "<lambda>" F.qual F.params F.body F.scope F.cl pm F.c ctv)).get? s.heap.objs.size = some (PySem.W.kla_obj "<lambda>" F.qual F.params F.body F.scope F.cl pm F.c ctv) := Heap.get?_push_size _ rfl
  exact I.laid (a := s.heap.objs.size) (fun b u z => Heap.get?_push_of_some _ z) (Nat.le_refl _) ⟨⟨pm, ctv, e⟩, ⟨_, e⟩, fun h1 h2 ⟨p, t, z⟩ st => ⟨p, t, st _ z⟩⟩
/-- lambda ..: a function of its own, known from now on -/
theorem lam_new {T : List (Addr × Str)} {c P : Addr} {params : Arguments} {body : Expr} {scope : Scope} {pos : Pos} {E : Value → Shared → Prop} {Q : Value → Shared → Prop} (I : Inv X pins σ H s) (TB : TabB X.base X.mg c P) (hcode : X.env.code = .ref c)
    (hm : (P, X.env.qual ++ "<lambda>") ∈ T) (hu : ∀ p ∈ T, p.1 = P → p.2 = X.env.qual ++ "<lambda>") (hT : Tabs T H) (hdef : defaultsOf params X.env = ([], [])) (hfree : ∀ y ∈ scope.names, y.2 = .free → ∃ c, X.env.cells.lookup y.1 = some c)
    (h : ∀ (f c' : Addr) (H1 : Hp) (s' : Shared), Inv X pins σ H1 s' → ExtN H H1 → (∀ b, H1 b = Option.none → H b = Option.none) → Tabs T H1 → H f = none → H1 f = some (LamO f ⟨X.env.qual ++ "<lambda>", params, body, scope, cloFrom X.env.cells scope.names [], c'⟩) → H1 c' = some (CodeO c' (X.env.qual ++ "<lambda>")) → Q (.ref f) s') :
    wpAny (model X.prog X.w) X.A (eval (.Lambda params body scope pos) X.env) Q E s := by
  refine PySem.W.kla_eval hdef ?_
  obtain ⟨ps, hP, ht, ha⟩ := hT _ hm
  have keep : ∀ {G : Hp} {b : Addr} {o : HO} {n : Addr} {u : HO}, G n = none → G b = some o → upd G n u b = some o := fun {G b o n u} z e => (upd_ne (ne_of_none e z)).trans e
  have hB := TB.bm.keeps I.bk
  have hPo : s.heap.get? P = some { cls := .none, data := .fields ps } := I.hok P _ hP
  have hG := I.mod.glob.keeps I.bk
  have hC := TB.code.keeps I.bk
  cases hc : codeAmong pos ps.toList with
  | some cv =>
    obtain ⟨c', rfl, hco⟩ := ha pos cv hc
    refine PySem.W.kla_makeFunctionHit (mg := X.mg) (c := c) (P := P) (ps := ps) (closure_ok hfree) I.ok.glob hG hcode hC hPo ht hc hB fun ctv h' tk hx hsz => ?_
    have J : Inv X pins σ H { s with heap := h', toks := tk } := I.kept hx
    have n0 : H h'.objs.size = none := J.hok.fresh (Nat.le_refl _)
    exact h _ c' _ _ (inv_lam (F := ⟨X.env.qual ++ "<lambda>", params, body, scope, cloFrom X.env.cells scope.names [], c'⟩) J) (fun b o e _ => keep n0 e) (fun b e => upd_none e) (hT.ext fun b o e => keep n0 e) n0 upd_same (keep n0 hco)
  | none =>
    refine PySem.W.kla_makeFunction (mg := X.mg) (c := c) (P := P) (ps := ps) (closure_ok hfree) I.ok.glob hG hcode hC hPo ht hc TB.gP hB fun c' ctv h' tk hx hge hlt hrec htb => ?_
    obtain ⟨_, oc, vs, t, e2, hoc, hd, hv⟩ := hrec
    cases e2
    have nC : H c' = none := I.hok.fresh hge
    have J := inv_table (t' := tk) (more := #[rawInt pos.line, rawInt pos.col, .ref c']) I hP (fun b o hb e => hx b o hb e) htb hge ⟨oc, vs, t, hoc, hd, hv⟩
    have n0 := J.hok.fresh (Nat.le_refl _)
    have go : ∀ b o, H b = some o → b ≠ P → upd (upd H P (.tbl (ps ++ #[rawInt pos.line, rawInt pos.col, .ref c']))) c' (CodeO c' (X.env.qual ++ "<lambda>")) b = some o := fun b o e nb => by
      rw [upd_ne (ne_of_none e nC), upd_ne nb]
      exact e
    have nP : ∀ b o, H b = some o → (∀ qs, o ≠ .tbl qs) → b ≠ P := fun b o e n z => by
      rw [z, hP] at e
      exact n ps (Option.some.inj e).symm
    have T1 : Tabs T (upd (upd H P (.tbl (ps ++ #[rawInt pos.line, rawInt pos.col, .ref c']))) c' (CodeO c' (X.env.qual ++ "<lambda>"))) := fun p hp => by
      have old : ∀ (ps' : Array Value), (∀ (p' : Pos) (cv : Value), codeAmong p' ps'.toList = some cv → ∃ c, cv = .ref c ∧ H c = some (CodeO c p.2)) → ∀ (p' : Pos) (cv : Value), codeAmong p' ps'.toList = some cv → ∃ d, cv = .ref d ∧ upd (upd H P (.tbl (ps ++ #[rawInt pos.line, rawInt pos.col, .ref c']))) c' (CodeO c' (X.env.qual ++ "<lambda>")) d = some (CodeO d p.2) := fun ps' z p' cv hcv => by
        obtain ⟨d, e1, e2⟩ := z p' cv hcv
        exact ⟨d, e1, go d _ e2 (nP d _ e2 codeO_ne)⟩
      by_cases hb : p.1 = P
      · have eq := hu p hp hb
        have eL : (ps ++ #[rawInt pos.line, rawInt pos.col, .ref c']).toList = ps.toList ++ [rawInt pos.line, rawInt pos.col, .ref c'] := by simp
        refine ⟨_, by rw [hb, upd_ne (ne_of_none hP nC), upd_same], by rw [eL]; exact PySem.TriplesOk_snoc _ _ _ _ ht, fun p' cv hcv => ?_⟩
        rw [eL] at hcv
        rcases among_app _ ht hcv with z | z
        · exact old ps (by rw [eq]; exact ha) p' cv z
        · exact ⟨c', z, by rw [eq, upd_same]⟩
      · obtain ⟨ps', a1, a2, a3⟩ := hT p hp
        exact ⟨ps', go _ _ a1 hb, a2, old ps' a3⟩
    refine h _ c' _ _ (inv_lam (F := ⟨X.env.qual ++ "<lambda>", params, body, scope, cloFrom X.env.cells scope.names [], c'⟩) J) (fun b o e n => keep n0 (go b o e (nP b o e n))) (fun b e => upd_none (upd_none (upd_none e))) (T1.ext fun b o e => keep n0 e) ?_ upd_same (keep n0 upd_same)
    exact I.hok.fresh (Nat.le_trans hge (Nat.le_of_lt hlt))
end
def tMkL (T : List (Addr × Str)) (mk : Addr → LF) : TE := fun _ H Q => Tabs T H ∧ ∀ (f c' : Addr) (H1 : Hp), ExtN H H1 → (∀ b, H1 b = Option.none → H b = Option.none) → Tabs T H1 → H f = none → H1 f = some (LamO f (mk c')) → H1 c' = some (CodeO c' (mk c').qual) → Q (.ref f) H1
theorem pe_lam {X : Cx} {T : List (Addr × Str)} {c P : Addr} {params : Arguments} {body : Expr} {scope : Scope} {pos : Pos} (TB : TabB X.base X.mg c P) (hcode : X.env.code = .ref c)
    (hm : (P, X.env.qual ++ "<lambda>") ∈ T) (hu : ∀ p ∈ T, p.1 = P → p.2 = X.env.qual ++ "<lambda>") (hdef : defaultsOf params X.env = ([], [])) (hfree : ∀ y ∈ scope.names, y.2 = .free → X.env.scope.names.lookup y.1 = some .cell ∨ X.env.scope.names.lookup y.1 = some .free) :
    PE X (.Lambda params body scope pos) (tMkL T fun c' => ⟨X.env.qual ++ "<lambda>", params, body, scope, cloFrom X.env.cells scope.names [], c'⟩) := by
  refine ⟨fun pins s σ H Q I h => ?_⟩
  obtain ⟨hT, h⟩ := h
  refine lam_new I TB hcode hm hu hT hdef (fun y hy e => (hfree y hy e).elim (fun z => I.ok.has _ (.inl z)) fun z => I.ok.has _ (.inr z)) fun f c' H1 s' I1 eN nn T1 f0 f1 c1 => ?_
  exact ⟨.ref f, H1, I1, rfl, h f c' H1 eN nn T1 f0 f1 c1⟩
/-! ### what such a function promises: sp ws, ws what its cells hold when it is called -/
structure LOk (P : Program) (w : World) (K : PySem.W.Frag) (mg : Str → Option Value) (base : Heap) (CX : CXT) (k : Nat) (F : LF) (ps fr : List Str) (sp : List (Option V) → Sp) : Prop where
  len : ∀ ws vs H Q E, sp ws vs H Q E → vs.length = ps.length
  run : ∀ (A : Around) (outer : List Env) (s : Shared) (H : Hp) (f : Addr) (us : List Value) (vs : List V) (ws : List (Option V)) (Q : VK) (E : XK), Room k A → Env0 P w K mg base A outer s H → H f = some (LamO f F) → H F.c = some (CodeO F.c F.qual) →
    CellsAt F.cl fr ws s.heap H → Vals vs us → sp ws vs H Q E → codeAny (model P w) A (.call (.ref f) ⟨us, []⟩) (CR CX outer P w H s Q E) s
section
variable {CX : CXT} {P : Program} {w : World} {K : PySem.W.Frag} {mg : Str → Option Value} {base : Heap} {N ps fr : List Str} {F : LF} {k : Nat} {sp : List (Option V) → Sp}
theorem lok_of (S : NScope N ps fr F.scope) (hb : ∀ (pm ctv : Value) (us : List Value), us.length = ps.length → bindArgs (PySem.W.kla_fn "<lambda>" F.qual F.params F.body F.scope F.cl pm (.ref F.c) ctv) ⟨us, []⟩ = pure (ps.zip us)) (len : ∀ ws vs H Q E, sp ws vs H Q E → vs.length = ps.length)
    (hbody : ∀ (A : Around) (outer : List Env) (s : Shared) (H : Hp) (f : Addr) (vs : List V) (ws : List (Option V)) (Q : VK) (E : XK), Room k (A.deeper (envF F.nf f s.heap.objs.size)) → ws.length = fr.length → sp ws vs H Q E →
      ∃ t, PE (ncx CX P w K mg base N F.nf f A outer s H E) F.body t ∧ t (startF N vs ws) H Q) :
    LOk P w K mg base CX (k + 1) F ps fr sp := by
  refine ⟨len, fun A outer s H f us vs ws Q E hr e0 hf hc C r hsp => ?_⟩
  have hl := len _ _ _ _ _ hsp
  have lim : s.heap.NoLimit := e0.mod.nolimit.keeps fun b o e => (e0.bs b o e).1
  obtain ⟨pm, ctv, ho⟩ := lamO_at e0.hok hf
  refine PySem.W.kla_callFunE hr.depth ho rfl S.co S.gen rfl (codeO_at e0.hok hc) ?_
  rw [hb pm ctv us (by rw [← r.length]; exact hl)]
  refine wpAny_pure (wpAny_newFunctionEnv S.nocell (fun ⟨n, _⟩ hy => S.par n (List.of_mem_zip hy).1) (fun h₁ hns hsb => ⟨lim.fresh _ hsb, ?_⟩) S.kind)
  show codeAny _ _ (.expr F.body (envF F.nf f s.heap.objs.size)) _ _
  have kp : ∀ b o, s.heap.get? b = some o → h₁.get? b = some o := fun b o e => hsb.extBut b o (Nat.ne_of_lt (Heap.lt_size e)) (Heap.get?_push_of_some _ e)
  obtain ⟨t, ht, hq⟩ := hbody A outer s H f vs ws Q E (hr.deeper _) C.len hsp
  have I : Inv (ncx CX P w K mg base N F.nf f A outer s H E) [] (startF N vs ws) H { s with heap := h₁, toks := s.toks + (ps.zip us).length } := inv_startN (F := F.nf) S hr.hd e0 hl r C hns kp
  refine PySem.W.kla_codeExpr (wpAny_mono (ht.run [] _ _ H Q I hq) (fun v s' z => ?_) fun e s' z => z)
  obtain ⟨w', H', J, rv, q⟩ := z
  exact ⟨w', H', J.os, J.bare, J.base, J.hok, rv, q⟩
end
/-! ### calls -/
section
variable {Z : Cx} {pins : List (Addr × Obj)} {σ : L2.St} {H : Hp} {s : Shared} {cl : List (Str × Addr)} {fr : List Str} {ws : List (Option V)}
/-- cells that stand in the base hold what they held there -/
theorem cells_base (C : CellsAt cl fr ws Z.base fun _ => none) (I : Inv Z pins σ H s) : CellsAt cl fr ws s.heap H := by
  have kp : ∀ c v, Z.base.IsCell c v → s.heap.IsCell c v := fun c v ⟨o, ho, hd⟩ => ⟨o, I.bk _ _ ho, hd⟩
  refine ⟨C.len, fun y c e => ?_, C.inj, fun i y e => ?_⟩
  · obtain ⟨_, v, z⟩ := C.all y c e
    have z2 := kp c v z
    obtain ⟨o, ho, _⟩ := z
    exact ⟨(I.bs _ _ ho).2, v, z2⟩
  · obtain ⟨c, hc, hv⟩ := C.has i y e
    refine ⟨c, hc, fun v ev => ?_⟩
    obtain ⟨u, r, z⟩ := hv v ev
    exact ⟨u, r, kp c _ z⟩
theorem cells_in {base' : Heap} (C : CellsAt cl fr ws s.heap H) (hb : ∀ y c, cl.lookup y = some c → base'.get? c = s.heap.get? c) : CellsAt cl fr ws base' fun _ => none := by
  have kp : ∀ y c, cl.lookup y = some c → ∀ v, s.heap.IsCell c v → base'.IsCell c v := fun y c e v ⟨o, ho, hd⟩ => ⟨o, (hb y c e).trans ho, hd⟩
  refine ⟨C.len, fun y c e => ?_, C.inj, fun i y e => ?_⟩
  · obtain ⟨_, v, z⟩ := C.all y c e
    exact ⟨rfl, v, kp y c e v z⟩
  · obtain ⟨c, hc, hv⟩ := C.has i y e
    refine ⟨c, hc, fun v ev => ?_⟩
    obtain ⟨u, r, z⟩ := hv v ev
    exact ⟨u, r, kp y c hc _ z⟩
theorem lamAt_of {f : Addr} {F : LF} (I : Inv Z pins σ H s) (e : H f = some (LamO f F)) : PySem.W.FnAt f s.heap := by
  obtain ⟨pm, ctv, ho⟩ := lamO_at I.hok e
  exact ⟨_, _, _, _, ho⟩
end
section
variable {Z : Cx} {CX : CXT} {F : LF} {ps fr : List Str} {ws : List (Option V)} {i j k : Nat} {x : Str} {sp : List (Option V) → Sp} {E : XK} {t : TA} {e : Expr} {es : List Expr} {p pos : Pos}
theorem run_l {pins : List (Addr × Obj)} {σ : L2.St} {H : Hp} {s : Shared} {Q : VK} {f : Addr} {us : List Value} {vs : List V} (Fn : LOk Z.prog Z.w Z.K Z.mg Z.base CX k F ps fr sp) (hr : Room j Z.A) (hk : k ≤ j) (hx : Passes CX Z E) (I : Inv Z pins σ H s)
    (hf : H f = some (LamO f F)) (hc : H F.c = some (CodeO F.c F.qual)) (C : CellsAt F.cl fr ws s.heap H) (r : Vals vs us) (q : sp ws vs H Q E) :
    wpAny (model Z.prog Z.w) Z.A (call (.ref f) us) (EP Z pins σ Q) Z.xe s := by
  refine wpAny_call (codeAny_mono (Fn.run Z.A Z.stack s H f us vs _ Q E (hr.mono hk) I.env0 hf hc C r q) fun r s' hq => ?_)
  cases r with
  | error er => exact hx pins σ H s er s' I hq
  | ok fl =>
    cases fl with
    | ret u => exact I.after hq
    | next => exact False.elim hq
    | brk => exact False.elim hq
    | cont => exact False.elim hq
/-- x(), x a name of the running frame that holds such a function; its maker's frame rests -/
theorem pe_callL0 (Fn : LOk Z.prog Z.w Z.K Z.mg Z.base CX k F [] fr sp) (C : CellsAt F.cl fr ws Z.base fun _ => none) (hr : Room j Z.A) (hk : k ≤ j) (hx : Passes CX Z E) (hN : Z.N[i]? = some x) (hv : Vis Z.env.scope x)
    (hd : (x == ("__debug__" : Str)) = false := by decide) (hcd : (x == ("__classdict__" : Str)) = false := by decide) :
    PE Z (.Call (.Name x p) [] [] pos) (fun σ H Q => ∃ f, σ[i]? = some (some (.ref f)) ∧ H f = some (LamO f F) ∧ H F.c = some (CodeO F.c F.qual) ∧ sp ws [] H Q E) := by
  refine ⟨fun pins s σ H Q I h => ?_⟩
  obtain ⟨f, hs, h1, h2, q⟩ := h
  refine wpAny_Call_Name_kw (thn ((pe_var (pos := p) hN hv hd hcd).run pins s σ H (fun v H1 => v = .ref f ∧ H1 = H) I ⟨.ref f, hs, rfl, rfl⟩) fun u s1 ⟨v, H1, I1, r1, ev, eH⟩ => ?_)
  subst ev
  rw [eH] at I1
  obtain rfl : u = Value.ref f := r1
  exact PySem.W.callWith_F0 (first := []) (lamAt_of I1 h1) (run_l Fn hr hk hx I1 h1 h2 (cells_base C I1) .nil q)
/-- x(e, ..) -/
theorem pe_callL (Fn : LOk Z.prog Z.w Z.K Z.mg Z.base CX k F ps fr sp) (C : CellsAt F.cl fr ws Z.base fun _ => none) (hr : Room j Z.A) (hk : k ≤ j) (hx : Passes CX Z E) (hN : Z.N[i]? = some x) (hv : Vis Z.env.scope x) (ha : PA Z (e :: es) t)
    (hd : (x == ("__debug__" : Str)) = false := by decide) (hcd : (x == ("__classdict__" : Str)) = false := by decide)
    (he : starEach (e :: es) Z.env = (false, eval e Z.env) :: starEach es Z.env := by rfl) (hpl : (backTo pos (starEach es Z.env)).any (·.1) = false := by rfl) :
    PE Z (.Call (.Name x p) (e :: es) [] pos) (fun σ H Q => ∃ f, σ[i]? = some (some (.ref f)) ∧ H f = some (LamO f F) ∧ t σ H fun vs H1 => H1 f = some (LamO f F) ∧ H1 F.c = some (CodeO F.c F.qual) ∧ sp ws vs H1 Q E) := by
  refine ⟨fun pins s σ H Q I h => ?_⟩
  obtain ⟨f, hs, h1, ht⟩ := h
  refine wpAny_Call_Name_kw (thn ((pe_var (pos := p) hN hv hd hcd).run pins s σ H (fun v H1 => v = .ref f ∧ H1 = H) I ⟨.ref f, hs, rfl, rfl⟩) fun u s1 ⟨v, H1, I1, r1, ev, eH⟩ => ?_)
  subst ev
  rw [eH] at I1
  obtain rfl : u = Value.ref f := r1
  refine PySem.W.callWith_F (first := []) (lamAt_of I1 h1) (thn (ha.run pos pins s1 σ H _ I1 ht) fun us s2 ⟨vs, H2, I2, r, h3, h4, q⟩ => ⟨lamAt_of I2 h3, ?_⟩) he hpl
  exact run_l Fn hr hk hx I2 h3 h4 (cells_base C I2) r q
end
end Hs
namespace Hs
open PySem PySem.Spec PyProof.Rows L2 LamX NdefX
/-! ### a call under a wider base: the caller's cells stand in it, so that they are known in every frame below -/
theorem env_more {X : Cx} {pins : List (Addr × Obj)} {σ : L2.St} {H : Hp} {s : Shared} (I : Inv X pins σ H s) (hfn : ∀ y, X.fn y = true) :
    ∃ base' : Heap, (∀ b o, X.base.get? b = some o → base'.get? b = some o) ∧ (∀ y c, X.env.cells.lookup y = some c → base'.get? c = s.heap.get? c) ∧ Env0 X.prog X.w X.K X.mg base' X.A X.stack s H := by
  have isC : ∀ y c, X.env.cells.lookup y = some c → c ∈ X.env.cells.map (·.2) := fun y c e => List.mem_map.mpr ⟨(y, c), PySem.mem_of_lookup e, rfl⟩
  let cs := (X.env.cells.filter fun q => X.env.cells.lookup q.1 == some q.2).map (·.2)
  have csC : ∀ c, c ∈ cs → ∃ y, X.env.cells.lookup y = some c := fun c hc => by
    obtain ⟨q, hq, e⟩ := List.mem_map.mp hc
    have z := (List.mem_filter.mp hq).2
    exact ⟨q.1, by rw [← e]; exact beq_iff_eq.mp z⟩
  have inC : ∀ y c, X.env.cells.lookup y = some c → c ∈ cs := fun y c e => List.mem_map.mpr ⟨(y, c), List.mem_filter.mpr ⟨PySem.mem_of_lookup e, by rw [beq_iff_eq]; exact e⟩, rfl⟩
  let l := (List.range s.heap.objs.size).filter fun b => (X.base.get? b).isNone && !(cs.contains b)
  have inL : ∀ b, b < s.heap.objs.size → X.base.get? b = none → b ∉ cs → b ∈ l := fun b h1 h2 h3 => by
    refine List.mem_filter.mpr ⟨List.mem_range.mpr h1, ?_⟩
    rw [h2]
    have h4 : cs.contains b = false := by
      cases q : cs.contains b with
      | false => rfl
      | true => exact absurd (List.contains_iff_mem.mp q) h3
    rw [h4] <;> rfl
  have outL : ∀ b, b ∈ l → X.base.get? b = none ∧ b ∉ cs := fun b hb => by
    have z := (List.mem_filter.mp hb).2
    obtain ⟨z1, z2⟩ := Bool.and_eq_true_iff.mp z
    refine ⟨Option.isNone_iff_eq_none.mp z1, fun q => ?_⟩
    rw [List.contains_iff_mem.mpr q] at z2
    cases z2
  have E0 := I.env0
  have up : ∀ b o, X.base.get? b = some o → (PySem.W.hideAll s.heap l).get? b = some o := fun b o e => PySem.W.hideAll_get l (E0.bs b o e).1 fun z => by
    rw [(outL b z).1] at e
    cases e
  refine ⟨PySem.W.hideAll s.heap l, up, fun y c e => ?_, E0.frames, ⟨E0.mod.kin.keeps up, E0.mod.glob.keeps up, ?_, E0.mod.nolimit.keeps up⟩, fun b o e => ?_, Nat.le_of_eq (PySem.W.hideAll_size _ _), ?_, E0.frf, E0.hok, E0.bare⟩
  · obtain ⟨v, o, ho, _⟩ := I.cell y c e
    rw [ho]
    exact PySem.W.hideAll_get l ho fun z => (outL c z).2 (inC y c e)
  · obtain ⟨mb, h1, h2⟩ := E0.mod.blt
    exact ⟨mb, h1.keeps up, h2⟩
  · have e1 := PySem.W.of_hideAll l e
    refine ⟨e1, ?_⟩
    by_cases hc : b ∈ cs
    · obtain ⟨y, hy⟩ := csC b hc
      exact I.freeC y b hy
    · cases hb : X.base.get? b with
      | some o' => exact (E0.bs b o' hb).2
      | none =>
        rw [PySem.W.hideAll_none l (inL b (Heap.lt_size e1) hb hc)] at e
        cases e
  · refine funFrames_none E0.funs fun L hL => ?_
    obtain ⟨hn, o, ho, _⟩ := E0.funs.mem hL
    refine PySem.W.hideAll_none l (inL L (Heap.lt_size ho) hn fun hc => ?_)
    obtain ⟨y, hy⟩ := csC L hc
    rcases List.mem_cons.mp (I.stkSub L hL) with z | z
    · exact I.cne y L hy z
    · obtain ⟨_, o2, ho2, _⟩ := I.ok.funs.mem z
      exact absurd (Nat.lt_of_lt_of_le (Heap.lt_size ho2) (I.ok.cab y L (hfn y) hy)) (Nat.lt_irrefl _)
/-- base' holds the running frame's cells, with what its names stand for -/
def Clo (X : Cx) (σ : L2.St) (base' : Heap) : Prop := ∀ (cl : List (Str × Addr)) (fr : List Str) (js : List Nat), (X.Ok → Caps X cl fr js) → CellsAt cl fr (js.map (slotAt σ)) base' fun _ => none
/-- an own def that gets functions which the running frame made -/
theorem pe_ownB {X : Cx} {k j : Nat} {x : Str} {ps : List Str} {sp : Heap → Sp} {e : Expr} {es : List Expr} {t : TA} {p pos : Pos} (O : ∀ base', (∀ b o, X.base.get? b = some o → base'.get? b = some o) → Own X.prog X.w X.K X.mg base' k x ps (sp base')) (hfn : ∀ y, X.fn y = true) (hr : Room j X.A) (hk : k ≤ j) (hg : Gl X x) (ha : PA X (e :: es) t)
    (hdb : (x == ("__debug__" : Str)) = false := by decide) (he : starEach (e :: es) X.env = (false, eval e X.env) :: starEach es X.env := by rfl) (hpl : (backTo pos (starEach es X.env)).any (·.1) = false := by rfl) :
    PE X (.Call (.Name x p) (e :: es) [] pos) (fun σ H Q => t σ H fun vs H1 => ∀ base', (∀ b o, X.base.get? b = some o → base'.get? b = some o) → Clo X σ base' → sp base' vs H1 Q C8.E0) := by
  obtain ⟨f, fd, _, m, kp, b⟩ := (O X.base fun _ _ z => z).ex
  refine ⟨fun pins s σ H Q I h => ?_⟩
  refine wpAny_Call_Name_kw (ld_glob I hg m ?_ hdb)
  refine PySem.W.callWith_K (h₀ := X.base) I.ok.mod.kin kp (thn (ha.run pos pins s σ H _ I h) fun us s1 ⟨vs, H1, I1, r, q⟩ => ⟨I1.kIn, ?_⟩) he hpl
  obtain ⟨base', up, cells, E1⟩ := env_more I1 hfn
  have q1 := q base' up fun cl fr js cp => cells_in (cells_of I1 (cp I1.ok)) fun y c e => cells y c ((cp I1.ok).sub y c e)
  obtain ⟨f', fd', F, m', kp', b'⟩ := (O base' up).ex
  have ef : f' = f := by
    rw [m] at m'
    cases m'
    rfl
  subst ef
  have hl : vs.length = ps.length := F.len _ _ _ _ q1
  refine wpAny_call (codeAny_mono (F.run X.A X.stack s1 H1 ⟨us, []⟩ us vs Q C8.E0 (hr.mono hk) E1 ?_ r q1) fun r s' hq => ?_)
  · have z := b' s1 us I1.kIn (by rw [List.append_nil, ← r.length, hl])
    rw [List.append_nil] at z
    exact z
  · cases r with
    | error er => exact (show False from hq).elim
    | ok fl =>
      cases fl with
      | ret u => exact I1.after hq
      | next => exact False.elim hq
      | brk => exact False.elim hq
      | cont => exact False.elim hq
/-- f is a function by a lambda whose cells stand in the base; tl: what its call does -/
def Act (P : Program) (w : World) (K : PySem.W.Frag) (mg : Str → Option Value) (base : Heap) (k : Nat) (q : Str) (H : Hp) (f : Addr) (tl : XK → Hp → VK → Prop) : Prop :=
  ∃ (F : LF) (fr : List Str) (ws : List (Option V)) (sp : List (Option V) → Sp), F.qual = q ∧ LOk P w K mg base (L2.CX P w) k F [] fr sp ∧ CellsAt F.cl fr ws base (fun _ => none) ∧ H f = some (LamO f F) ∧ H F.c = some (CodeO F.c F.qual) ∧ tl = fun E H' Q => H' f = some (LamO f F) ∧ sp ws [] H' Q E
/-- what the catcher promises of it -/
def spTried (P : Program) (w : World) (K : PySem.W.Frag) (mg : Str → Option Value) (base : Heap) (k : Nat) (q : Str) (cN cL cK cB cS cM cC : Addr) : Sp := fun vs H Q _ => ∃ (f : Addr) (tl : XK → Hp → VK → Prop), vs = [.ref f] ∧ Act P w K mg base k q H f tl ∧ TTr K cN cL cK cB cS cM cC tl H Q
theorem ok_tried {P : Program} {w : World} {K : PySem.W.Frag} {mg : Str → Option Value} {base : Heap} {g : Addr} {fd : FuncData} {k : Nat} {q : Str} {cN cL cK cB cS cM cC : Addr} (F : FnP K "_law_tried" sTried g fd) (ct : Cats mg cN cL cK cB cS cM cC) :
    FnOk P w K mg base CX0 (k + 1) g fd ["_law_act"] (spTried P w K mg base k q cN cL cK cB cS cM cC) := by
  obtain ⟨oc, od, dV, kV, doc, pm, an, cdv, ctt, osl, rfl, lk, hcd, _, _⟩ := F.ex
  refine ⟨fun vs H Q E h => ?_, fun A outer s H args us vs Q E hr e0 hb r hsp => ?_⟩
  · obtain ⟨f, tl, rfl, _⟩ := h
    rfl
  · obtain ⟨f, tl, rfl, ⟨F, fr, ws, sp, rfl, Fn, C, h1, h2, rfl⟩, hT⟩ := hsp
    refine LamX.run_ofS (N := ["_law_act", "e"]) (ps := ["_law_act"]) (us := us) (vs := [.ref f]) lk hcd scTried hr e0 hb r rfl fun hr' => ?_
    obtain ⟨t', ht', hq'⟩ := tried_gives (X := { cxOf CX0 P w K mg base [] "" (defScope sTried) g cdv A outer s H E with A := A, stack := outer }) (q := F.qual) (g := g) (cdg := cdv) ct f F.c s H Q (fun E H' Q => H' f = some (LamO f F) ∧ sp ws [] H' Q E)
      (fun W pn xe E p1 p2 tk hW => ⟨fun pins s1 σ H1 Q1 I1 h => (pe_callL0 (i := 0) (x := "_law_act") (E := E) Fn C hr' (Nat.le_refl _) (passes_call tk hW) rfl (.inl rfl)).run pins s1 σ H1 Q1 I1 ⟨f, h.1, h.2.2.1, h.2.1, h.2.2.2⟩⟩) h2 hT
    exact ⟨t', ht'.nox, hq'⟩
end Hs
namespace Hs
open PySem PySem.Spec PyProof.Rows L2 Evl LamX
/-- the catcher tells a new tuple of f, whatever is new -/
def Tells (P : Program) (w : World) (K : PySem.W.Frag) (mg : Str → Option Value) (base : Heap) (k : Nat) (q : Str) (cN cL cK cB cS cM cC : Addr) (H : Hp) (f : Addr) (xs : List V) : Prop :=
  ∀ H', Ex H H' → ∃ tl, Act P w K mg base k q H' f tl ∧ ∀ Q : VK, (∀ p H2, H' p = none → Ex H' H2 → H2 p = some (.tup xs) → Q (.ref p) H2) → TTr K cN cL cK cB cS cM cC tl H' Q
theorem Tells.ext {P : Program} {w : World} {K : PySem.W.Frag} {mg : Str → Option Value} {base : Heap} {k : Nat} {q : Str} {cN cL cK cB cS cM cC : Addr} {H H1 : Hp} {f : Addr} {xs : List V} (h : Tells P w K mg base k q cN cL cK cB cS cM cC H f xs) (e : Ex H H1) : Tells P w K mg base k q cN cL cK cB cS cM cC H1 f xs := fun H' e' => h H' (e.trans e')
/-- tuples that stand -/
def Tups (H : Hp) (ps : List Addr) (outs : List (List V)) : Prop := ∀ (i : Nat) (p : Addr) (xs : List V), ps[i]? = some p → outs[i]? = some xs → H p = some (.tup xs)
def spAll (P : Program) (w : World) (K : PySem.W.Frag) (mg : Str → Option Value) (base : Heap) (k : Nat) (q : Str) (cN cL cK cB cS cM cC : Addr) : Sp := fun vs H Q _ => ∃ (a : Addr) (fs : List Addr) (outs : List (List V)), vs = [.ref a] ∧ SqL K H a (fs.map V.ref) ∧ fs.length = outs.length ∧ fs.length ≤ 1000 ∧
  (∀ (i : Nat) (f : Addr) (xs : List V), fs[i]? = some f → outs[i]? = some xs → Tells P w K mg base k q cN cL cK cB cS cM cC H f xs) ∧
  ∀ (p : Addr) (ps : List Addr) (H' : Hp), H p = none → Ex H H' → H' p = some (.lst (ps.map V.ref)) → ps.length = outs.length → Tups H' ps outs → Q (.ref p) H'
section
variable {P : Program} {w : World} {K : PySem.W.Frag} {mg : Str → Option Value} {base : Heap} {f : Addr} {fd : FuncData} {k : Nat} {q : Str} {cN cL cK cB cS cM cC : Addr}
abbrev sAll : Stmt := top 22
theorem scAll : FnScope ["_law_acts", "_law_act"] ["_law_acts"] (defScope sAll) := ⟨rfl, rfl, rfl, by decide +kernel, rfl, by decide +kernel, by decide +kernel⟩
theorem ok_all (F : FnP K "_law_all_tried" sAll f fd) (O__law_tried : Own P w K mg base (k + 1) "_law_tried" ["_law_act"] (spTried P w K mg base k q cN cL cK cB cS cM cC)) : FnOk P w K mg base CX0 (k + 2) f fd ["_law_acts"] (spAll P w K mg base k q cN cL cK cB cS cM cC) := by
  have nd := scAll.nd
  refine F.ok scAll (fun vs H Q E h => ?_) (fun cdv A outer s H vs Q E hr h => ⟨_, PSs.nox (pss_one (ps_ret (pe_lc (own := [("_law_act", 1)]) rfl nd (pi_list (pv 0)) (blkOk_by (N := ["_law_acts", "_law_act"]) (sc := defScope (Hs.top 22)) (by decide +kernel)) (fun _ _ _ _ _ => (pg_name (i := 1) nd rfl (Or.inl rfl))) (fun _ _ _ _ _ => pts_nil) (fun _ _ _ _ _ => (Hs.pe_own O__law_tried hr (by first | decide | omega) (by rfl) (pa_cons (pv 1) pa_nil)))))), ?_⟩)
  · obtain ⟨a, fs, outs, rfl, _⟩ := h
    rfl
  · obtain ⟨a, fs, outs, rfl, hS, hl, hz, hT, kk⟩ := h
    refine ⟨_, rfl, a, rfl, ⟨_, hS⟩, fun D hD => ?_⟩
    refine lc_list (xs := fs.map V.ref) (fun i H' => Ex H H' ∧ ∃ ps : List Addr, H' D = some (.lst (ps.map V.ref)) ∧ ps.length = i ∧ Tups H' ps outs) ⟨Ex.new hD, [], upd_same, rfl, fun i p xs h => by cases h⟩ (fun i H' _ p => ex_l p.1 hS) (fun i x H' hi p => ⟨rfl, ?_⟩) (fun H' p => ?_)
    · obtain ⟨e, ps, h1, h2, h3⟩ := p
      rw [List.getElem?_map] at hi
      obtain ⟨g, hg, rfl⟩ := Option.map_eq_some_iff.mp hi
      have hlt : i < fs.length := (List.getElem?_eq_some_iff.mp hg).1
      obtain ⟨xs, hxs⟩ : ∃ xs, outs[i]? = some xs := ⟨_, List.getElem?_eq_getElem (by omega)⟩
      obtain ⟨tl, ha, ht⟩ := hT i g xs hg hxs H' e
      refine ⟨_, rfl, g, tl, rfl, ha, ht _ fun r H2 hr2 e2 h4 => ⟨_, e2 _ _ h1, sz_lt (by rw [List.length_map]; omega), Ex.mut (e.trans e2) hD, ps ++ [r], by rw [upd_same, List.map_append] <;> rfl, by rw [List.length_append, h2] <;> rfl, fun j p ys hp hy => ?_⟩⟩
      have nD : ∀ p ys, H2 p = some (.tup ys) → p ≠ D := fun p ys z w => by
        rw [w, e2 _ _ h1] at z
        cases z
      by_cases hj : j < ps.length
      · rw [List.getElem?_append_left hj] at hp
        have z := e2 _ _ (h3 j p ys hp hy)
        rw [upd_ne (nD _ _ z)]
        exact z
      · rw [List.getElem?_append_right (by omega)] at hp
        have hj2 : j = i := by
          have : j - ps.length < 1 := (List.getElem?_eq_some_iff.mp hp).1
          omega
        subst hj2
        have e0 : j - ps.length = 0 := by omega
        rw [e0] at hp
        cases hp
        rw [hxs] at hy
        cases hy
        rw [upd_ne (nD _ _ h4)]
        exact h4
    · obtain ⟨e, ps, h1, h2, h3⟩ := p
      exact kk D ps H' hD e h1 (by rw [h2, List.length_map, hl]) h3
end
end Hs
namespace Hs
open PySem PySem.Spec PyProof.Rows L2 Evl
def RetU (xs : List V) (H : Hp) (Q : VK) : Prop := ∀ p H2, H p = none → Ex H H2 → H2 p = some (.tup xs) → Q (.ref p) H2
/-- an own def that may raise, by its promise; dvs: the defaults that fill up -/
structure OwnX (P : Program) (w : World) (K : PySem.W.Frag) (mg : Str → Option Value) (base : Heap) (k : Nat) (x : Str) (ps : List Str) (dvs : List V) (sp : Sp) : Prop where
  ex : ∃ (f : Addr) (fd : FuncData) (ds : List Value), FnOk P w K mg base (L2.CX P w) k f fd ps sp ∧ mg x = some (.ref f) ∧ PySem.W.keepIn K (.ref f) = true ∧ Vals dvs ds ∧ Binds K fd ps ds
/-- .. where it raises nothing -/
theorem pe_ownX {X : Cx} {k j : Nat} {x : Str} {ps : List Str} {dvs : List V} {sp : Sp} {e : Expr} {es : List Expr} {t : TA} {p pos : Pos} (O : OwnX X.prog X.w X.K X.mg X.base k x ps dvs sp) (hr : Room j X.A) (hk : k ≤ j) (hg : Gl X x) (ha : PA X (e :: es) t)
    (hdb : (x == ("__debug__" : Str)) = false := by decide) (he : starEach (e :: es) X.env = (false, eval e X.env) :: starEach es X.env := by rfl) (hpl : (backTo pos (starEach es X.env)).any (·.1) = false := by rfl) :
    PE X (.Call (.Name x p) (e :: es) [] pos) (tCall sp dvs E0 t) := by
  obtain ⟨f, fd, ds, F, m, kp, d, b⟩ := O.ex
  exact pe_call F (hr.mono hk) hg m kp b d passL ha hdb he hpl
/-- .. where what it raises is taken -/
theorem pe_ownT {X : Cx} {k j : Nat} {x : Str} {ps : List Str} {dvs : List V} {sp : Sp} {e : Expr} {es : List Expr} {t : TA} {p pos : Pos} {Ex : XK} (O : OwnX X.prog X.w X.K X.mg X.base k x ps dvs sp) (hr : Room j X.A) (hk : k ≤ j) (hg : Gl X x) (hx : Passes (L2.CX X.prog X.w) X Ex) (ha : PA X (e :: es) t)
    (hdb : (x == ("__debug__" : Str)) = false := by decide) (he : starEach (e :: es) X.env = (false, eval e X.env) :: starEach es X.env := by rfl) (hpl : (backTo pos (starEach es X.env)).any (·.1) = false := by rfl) :
    PE X (.Call (.Name x p) (e :: es) [] pos) (tCall sp dvs Ex t) := by
  obtain ⟨f, fd, ds, F, m, kp, d, b⟩ := O.ex
  exact pe_call F (hr.mono hk) hg m kp b d hx ha hdb he hpl
def rHas : R2 := fun x y H Q => ∃ (c : Nat) (z : Str), x = .str ⟨#[c]⟩ ∧ y = .str z ∧ Q (.bl (decide (c ∈ z.cps.toList))) H
theorem op_has {X : Cx} : OpR X (compareOp .In) rHas := op_in_sign
theorem pi_listK {X : Cx} {K : PySem.W.Frag} {tg l : Expr} {tl : TE} (hl : PE X l tl) (hK : X.K = K := by rfl) : PI X tg l (iList K tl) := by
  subst hK
  exact pi_list hl
end Hs
namespace Hs
open PySem PySem.Spec PyProof.Rows L2 Evl
/-! ### the law -/
theorem tabs_but {T : List (Addr × Str)} {H H' : Hp} {b : Addr} {xs : List V} (t : LamX.Tabs T H) (hb : H b = some (.lst xs)) (k : But H H' b) : LamX.Tabs T H' := fun p hp => by
  obtain ⟨ps, h1, h2, h3⟩ := t p hp
  refine ⟨ps, k _ _ h1 (ne_of h1 hb (by intro z; cases z)), h2, fun pos cv hc => ?_⟩
  obtain ⟨c, e1, e2⟩ := h3 pos cv hc
  exact ⟨c, e1, k _ _ e2 (ne_of e2 hb (by intro z; unfold LamX.CodeO at z; cases z))⟩
theorem tabs_upd {T : List (Addr × Str)} {H : Hp} {b : Addr} {xs : List V} {o : HO} (t : LamX.Tabs T H) (hb : H b = some (.lst xs)) : LamX.Tabs T (upd H b o) := tabs_but t hb (But.upd But.refl)
theorem bag_extN {H H' : Hp} {b l : Addr} {ns : List Int} {n : Nat} (B : BagAt H b l ns n) (e : LamX.ExtN H H') : BagAt H' b l ns n := by
  obtain ⟨⟨i, z, s, c, h1, h2, h3, h4, h5⟩, h6, h7⟩ := B
  exact ⟨⟨i, z, s, c, e _ _ h1 (fun _ z => by cases z), h2, h3, h4, h5⟩, e _ _ h6 (fun _ z => by cases z), h7⟩
theorem bag_upd {H : Hp} {b l a : Addr} {ns : List Int} {n : Nat} {o : HO} (B : BagAt H b l ns n) (h1 : b ≠ a) (h2 : l ≠ a) : BagAt (upd H a o) b l ns n := by
  obtain ⟨⟨i, z, s, c, q1, q2, q3, q4, q5⟩, q6, q7⟩ := B
  exact ⟨⟨i, z, s, c, by rw [upd_ne h1]; exact q1, q2, q3, q4, q5⟩, by rw [upd_ne h2]; exact q6, q7⟩
theorem bag_lst {H : Hp} {b l : Addr} {ns : List Int} {n : Nat} (B : BagAt H b l ns n) : ∃ xs, H b = some (.lst xs) := by
  obtain ⟨⟨i, z, s, c, h1, _⟩, _⟩ := B
  exact ⟨_, h1⟩
end Hs
namespace Hs
open PySem PySem.Spec PyProof.Rows L2 Evl
def siftsV : List V := [.str "", .str "r", .str "g", .str "b", .str "rg", .str "rb", .str "gb", .str "rgb"]
def good (z : Str) : Bool := inV (.str z) siftsV
/-- an error of the class C flies, with its word -/
def Flies (C : Addr) (wd : Str) (H : Hp) (E : XK) : Prop := ∀ d H', Ex H H' → H d = none → H' d = some (.xd [("word", .str wd)]) → E (.ref C) (some d) H'
def spCheck (C : Addr) : Sp := fun vs H Q E => ∃ z : Str, vs = [.str z] ∧ (good z = false → Flies C "badsift" H E) ∧ (good z = true → RetV .non H Q)
section
variable {P : Program} {w : World} {K : PySem.W.Frag} {mg : Str → Option Value} {base : Heap} {f C S : Addr} {fd : FuncData}
abbrev sCheck : Stmt := top 13
theorem scCheck : FnScope ["sift"] ["sift"] (defScope sCheck) := ⟨rfl, rfl, rfl, by decide +kernel, rfl, by decide +kernel, by decide +kernel⟩
theorem ok_check (F : FnP K "check_sift" sCheck f fd) (Er_BadSift : ErrF P w K mg base 1 "BadSift" C "badsift") (g_SIFTS : mg "SIFTS" = some (.ref S) ∧ RelV (.ref S) (.ref S)) (hS : ∀ H, SqT K H S siftsV) : FnOk P w K mg base (L2.CX P w) 3 f fd ["sift"] (spCheck C) := by
  have nd := scCheck.nd
  refine F.ok scCheck (fun vs H Q E h => ?_) (fun cdv A outer s H vs Q E hr h => ⟨_, (pss_one (ps_if (pt_cmpR op_notIn_seq (pv 0) (pe_glob (by rfl) g_SIFTS.1 g_SIFTS.2) (by rfl)) (pss_one (ps_raise rfl (takes_of rfl rfl rfl rfl) (Hs.pmk_err Er_BadSift hr (by decide) (by rfl)))) pss_nil)), ?_⟩)
  · obtain ⟨z, rfl, _⟩ := h
    rfl
  · obtain ⟨z, rfl, kE, k⟩ := h
    refine ⟨_, rfl, S, siftsV, rfl, .inr (hS H), rfl, by decide, ?_⟩
    cases hg : good z with
    | true =>
      have hg' : inV (.str z) siftsV = true := hg
      refine ⟨_, rfl, ite_F (by rw [hg'] <;> rfl) ?_⟩
      exact k hg H (Ex.refl H)
    | false =>
      have hg' : inV (.str z) siftsV = false := hg
      refine ⟨_, rfl, ite_T (by rw [hg'] <;> rfl) ?_⟩
      exact kE hg
/-! ### a light sifted -/
abbrev Tri := Int × Int × Int
def tri (x : Tri) : List V := [.int x.1, .int x.2.1, .int x.2.2]
/-- whether the letter stands in the text -/
def has (c : Nat) (z : Str) : Bool := decide (c ∈ z.cps.toList)
def pick (c : Nat) (z : Str) (i : Int) : Int := if has c z = true then i else 0
def siftT (x : Tri) (z : Str) : Tri := (pick 114 z x.1, pick 103 z x.2.1, pick 98 z x.2.2)
def spSifted (K : PySem.W.Frag) (C : Addr) : Sp := fun vs H Q E => ∃ (a : Addr) (x : Tri) (z : Str), vs = [.ref a, .str z] ∧ SqT K H a (tri x) ∧ (good z = false → Flies C "badsift" H E) ∧ (good z = true → RetU (tri (siftT x z)) H Q)
theorem ev_pick {σ : L2.St} {H : Hp} {c : Nat} {z : Str} {i : Int} {l : Str} {ti tz : TE} (hl : l = ⟨#[c]⟩) (hz : Ev tz σ H (.str z)) (hi : Ev ti σ H (.int i)) : Ev (tIf (tTest (tOp rHas (tC (.str l)) tz)) ti (tC (.int 0))) σ H (.int (pick c z i)) := by
  refine ev_if (b := has c z) (et_test (ev_op ev_c hz fun H1 _ Q q => ⟨c, z, by rw [hl], rfl, q H1 (Ex.refl H1)⟩)) (fun hb => ?_) (fun hb => ?_)
  · exact ev_is hi (by rw [pick, if_pos hb])
  · exact ev_is ev_c (by rw [pick, if_neg (by rw [hb]; exact Bool.false_ne_true)])
abbrev sSifted : Stmt := top 14
theorem scSifted : FnScope ["light", "sift", "red", "green", "blue"] ["light", "sift"] (defScope sSifted) := ⟨rfl, rfl, rfl, by decide +kernel, rfl, by decide +kernel, by decide +kernel⟩
theorem ok_sifted (F : FnP K "sifted" sSifted f fd) (O_check_sift : OwnX P w K mg base 3 "check_sift" ["sift"] [] (spCheck C)) : FnOk P w K mg base (L2.CX P w) 4 f fd ["light", "sift"] (spSifted K C) := by
  have nd := scSifted.nd
  refine F.ok scSifted (fun vs H Q E h => ?_) (fun cdv A outer s H vs Q E hr h => ⟨_, (pss_cons (ps_expr (Hs.pe_ownT O_check_sift hr (by decide) (by rfl) (passes_call (takes_of rfl rfl rfl rfl) (fun _ _ _ _ h => h)) (pa_cons (pv 1) pa_nil)))
  (pss_cons (ps_asg (pv 0) (pg_tup rfl (pgs_cons (pg_name (i := 2) nd rfl (.inl rfl)) (pgs_cons (pg_name (i := 3) nd rfl (.inl rfl)) (pgs_cons (pg_name (i := 4) nd rfl (.inl rfl)) pgs_nil)))))
  (pss_one (ps_ret (pe_tup (pa_cons (pe_ifExp (pt_cmpR (Hs.op_has) pe_str (pv 1) (by rfl)) (pv 2) pe_int) (pa_cons (pe_ifExp (pt_cmpR (Hs.op_has) pe_str (pv 1) (by rfl)) (pv 3) pe_int) (pa_cons (pe_ifExp (pt_cmpR (Hs.op_has) pe_str (pv 1) (by rfl)) (pv 4) pe_int) pa_nil)))))))), ?_⟩)
  · obtain ⟨a, x, z, rfl, _⟩ := h
    rfl
  · obtain ⟨a, x, z, rfl, hx, kE, k⟩ := h
    refine ⟨_, rfl, z, rfl, fun hg => kE hg, fun hg H1 e1 => ?_⟩
    refine ⟨_, rfl, a, _, rfl, ex_t e1 hx, rfl, _, _, rfl, _, _, rfl, _, _, rfl, rfl, ?_⟩
    refine s_retU (eu_tup (ea_cons (ev_pick (c := 114) rfl (ev_var rfl) (ev_var rfl)) (ea_cons (ev_pick (c := 103) rfl (ev_var rfl) (ev_var rfl)) (ea_cons (ev_pick (c := 98) rfl (ev_var rfl) (ev_var rfl)) ea_nil))) (by simp)) fun p H2 hp e2 h2 => ?_
    exact k hg p H2 (fresh_back e1 hp) (e1.trans e2) h2
/-! ### sums of lights -/
def sum3 (xs : List Tri) : Tri := (((xs.map (·.1)).sum), ((xs.map (·.2.1)).sum), ((xs.map (·.2.2)).sum))
/-- lights that stand: of each its object -/
def Lights (K : PySem.W.Frag) (H : Hp) (ps : List Addr) (xs : List Tri) : Prop := ps.length = xs.length ∧ ∀ (i : Nat) (p : Addr) (x : Tri), ps[i]? = some p → xs[i]? = some x → H p = some (.tup (tri x))
def spSummedL (K : PySem.W.Frag) : Sp := fun vs H Q _ => ∃ (a : Addr) (ps : List Addr) (xs : List Tri), vs = [.ref a] ∧ SqL K H a (ps.map V.ref) ∧ Lights K H ps xs ∧ RetU (tri (sum3 xs)) H Q
abbrev sSummed : Stmt := top 15
theorem scSummed : FnScope ["lights", "red", "green", "blue", "light"] ["lights"] (defScope sSummed) := ⟨rfl, rfl, rfl, by decide +kernel, rfl, by decide +kernel, by decide +kernel⟩
theorem sum_take {f : Tri → Int} {xs : List Tri} {i : Nat} {x : Tri} (h : xs[i]? = some x) : ((xs.take (i + 1)).map f).sum = ((xs.take i).map f).sum + f x := by
  rw [List.take_add_one, h]
  simp
theorem ok_summedL (F : FnP K "summed" sSummed f fd) {D : Addr} (g_DARK : mg "DARK" = some (.ref D) ∧ RelV (.ref D) (.ref D)) (hD : ∀ H, SqT K H D (tri (0, 0, 0))) : FnOk P w K mg base CX0 1 f fd ["lights"] (spSummedL K) := by
  have nd := scSummed.nd
  refine F.ok scSummed (fun vs H Q E h => ?_) (fun cdv A outer s H vs Q E hr h => ⟨_, PSs.nox (pss_cons (ps_asg (pe_glob (by rfl) g_DARK.1 g_DARK.2) (pg_tup rfl (pgs_cons (pg_name (i := 1) nd rfl (.inl rfl)) (pgs_cons (pg_name (i := 2) nd rfl (.inl rfl)) (pgs_cons (pg_name (i := 3) nd rfl (.inl rfl)) pgs_nil)))))
  (pss_cons (ps_for PassesOwn.never rfl (pi_list (pv 0)) (pg_name (i := 4) nd rfl (.inl rfl)) (pss_cons (ps_aug (i := 1) nd rfl (.inl rfl) (pe_ix (r := rIxT K) ix_tup (pv 4) pe_int (fun _ _ => rfl)) ip_add)
  (pss_cons (ps_aug (i := 2) nd rfl (.inl rfl) (pe_ix (r := rIxT K) ix_tup (pv 4) pe_int (fun _ _ => rfl)) ip_add)
  (pss_one (ps_aug (i := 3) nd rfl (.inl rfl) (pe_ix (r := rIxT K) ix_tup (pv 4) pe_int (fun _ _ => rfl)) ip_add)))))
  (pss_one (ps_ret (pe_tup (pa_cons (pv 1) (pa_cons (pv 2) (pa_cons (pv 3) pa_nil)))))))), ?_⟩)
  · obtain ⟨a, ps, xs, rfl, _⟩ := h
    rfl
  · obtain ⟨a, ps, xs, rfl, hS, ⟨hl, hL⟩, k⟩ := h
    refine ⟨D, _, rfl, hD H, rfl, _, _, rfl, _, _, rfl, _, _, rfl, rfl, ?_⟩
    show tSeq (tFor (iList K (tVar 0)) _ _) _ _ [some (.ref a), some (.int 0), some (.int 0), some (.int 0), none] H
    refine q_forL (a := a) (xs := ps.map V.ref) ?_ hS (fun i σ' H' => Ex H H' ∧ ∃ v : Option V, σ' = [some (.ref a), some (.int (sum3 (xs.take i)).1), some (.int (sum3 (xs.take i)).2.1), some (.int (sum3 (xs.take i)).2.2), v]) ?_ ?_ ?_ ?_
    · exact ev_var rfl
    · intro H1 e1
      exact ⟨e1, none, rfl⟩
    · rintro i σ' H' _ ⟨e, _⟩
      exact ex_l e hS
    · rintro i x σ' H' hx ⟨e, v, rfl⟩
      rw [List.getElem?_map] at hx
      obtain ⟨p, hp, rfl⟩ := Option.map_eq_some_iff.mp hx
      obtain ⟨y, hy⟩ : ∃ y, xs[i]? = some y := by
        have : i < xs.length := by
          rw [← hl]
          exact (List.getElem?_eq_some_iff.mp hp).1
        exact ⟨_, List.getElem?_eq_getElem this⟩
      have hy1 := st_of (K := K) (e _ _ (hL i p y hp hy))
      refine q_aug (f := fun i j => i + j) rfl (ev_ixt rfl hy1 rfl) fun H2 e2 => ?_
      refine q_aug (f := fun i j => i + j) rfl (ev_ixt rfl (ex_t e2 hy1) rfl) fun H3 e3 => ?_
      refine s_aug (f := fun i j => i + j) rfl (ev_ixt rfl (ex_t (e2.trans e3) hy1) rfl) fun H4 e4 => ⟨((e.trans e2).trans e3).trans e4, some (.ref p), ?_⟩
      have t1 := sum_take (f := fun z => z.1) hy
      have t2 := sum_take (f := fun z => z.2.1) hy
      have t3 := sum_take (f := fun z => z.2.2) hy
      show _ = [_, some (V.int ((xs.take (i + 1)).map (fun z => z.1)).sum), some (V.int ((xs.take (i + 1)).map (fun z => z.2.1)).sum), some (V.int ((xs.take (i + 1)).map (fun z => z.2.2)).sum), _]
      rw [t1, t2, t3]
      rfl
    · rintro σ' H' ⟨e, v, rfl⟩
      rw [List.length_map, hl, List.take_length]
      exact s_retU (eu_tup (ea_cons (ev_var rfl) (ea_cons (ev_var rfl) (ea_cons (ev_var rfl) ea_nil))) (by simp)) fun p H2 hp e2 h2 => k p H2 (fresh_back e hp) (e.trans e2) h2
def spSummedT (K : PySem.W.Frag) : Sp := fun vs H Q _ => ∃ (a : Addr) (ps : List Addr) (xs : List Tri), vs = [.ref a] ∧ SqT K H a (ps.map V.ref) ∧ Lights K H ps xs ∧ RetU (tri (sum3 xs)) H Q
theorem ok_summedT (F : FnP K "summed" sSummed f fd) {D : Addr} (g_DARK : mg "DARK" = some (.ref D) ∧ RelV (.ref D) (.ref D)) (hD : ∀ H, SqT K H D (tri (0, 0, 0))) : FnOk P w K mg base CX0 1 f fd ["lights"] (spSummedT K) := by
  have nd := scSummed.nd
  refine F.ok scSummed (fun vs H Q E h => ?_) (fun cdv A outer s H vs Q E hr h => ⟨_, PSs.nox (pss_cons (ps_asg (pe_glob (by rfl) g_DARK.1 g_DARK.2) (pg_tup rfl (pgs_cons (pg_name (i := 1) nd rfl (.inl rfl)) (pgs_cons (pg_name (i := 2) nd rfl (.inl rfl)) (pgs_cons (pg_name (i := 3) nd rfl (.inl rfl)) pgs_nil)))))
  (pss_cons (ps_for PassesOwn.never rfl (pi_tup (pv 0)) (pg_name (i := 4) nd rfl (.inl rfl)) (pss_cons (ps_aug (i := 1) nd rfl (.inl rfl) (pe_ix (r := rIxT K) ix_tup (pv 4) pe_int (fun _ _ => rfl)) ip_add)
  (pss_cons (ps_aug (i := 2) nd rfl (.inl rfl) (pe_ix (r := rIxT K) ix_tup (pv 4) pe_int (fun _ _ => rfl)) ip_add)
  (pss_one (ps_aug (i := 3) nd rfl (.inl rfl) (pe_ix (r := rIxT K) ix_tup (pv 4) pe_int (fun _ _ => rfl)) ip_add)))))
  (pss_one (ps_ret (pe_tup (pa_cons (pv 1) (pa_cons (pv 2) (pa_cons (pv 3) pa_nil)))))))), ?_⟩)
  · obtain ⟨a, ps, xs, rfl, _⟩ := h
    rfl
  · obtain ⟨a, ps, xs, rfl, hS, ⟨hl, hL⟩, k⟩ := h
    refine ⟨D, _, rfl, hD H, rfl, _, _, rfl, _, _, rfl, _, _, rfl, rfl, ?_⟩
    show tSeq (tFor (iTup K (tVar 0)) _ _) _ _ [some (.ref a), some (.int 0), some (.int 0), some (.int 0), none] H
    refine q_forT (a := a) (xs := ps.map V.ref) ?_ hS (fun i σ' H' => Ex H H' ∧ ∃ v : Option V, σ' = [some (.ref a), some (.int (sum3 (xs.take i)).1), some (.int (sum3 (xs.take i)).2.1), some (.int (sum3 (xs.take i)).2.2), v]) ?_ ?_ ?_ ?_
    · exact ev_var rfl
    · intro H1 e1
      exact ⟨e1, none, rfl⟩
    · rintro i σ' H' _ ⟨e, _⟩
      exact ex_t e hS
    · rintro i x σ' H' hx ⟨e, v, rfl⟩
      rw [List.getElem?_map] at hx
      obtain ⟨p, hp, rfl⟩ := Option.map_eq_some_iff.mp hx
      obtain ⟨y, hy⟩ : ∃ y, xs[i]? = some y := by
        have : i < xs.length := by
          rw [← hl]
          exact (List.getElem?_eq_some_iff.mp hp).1
        exact ⟨_, List.getElem?_eq_getElem this⟩
      have hy1 := st_of (K := K) (e _ _ (hL i p y hp hy))
      refine q_aug (f := fun i j => i + j) rfl (ev_ixt rfl hy1 rfl) fun H2 e2 => ?_
      refine q_aug (f := fun i j => i + j) rfl (ev_ixt rfl (ex_t e2 hy1) rfl) fun H3 e3 => ?_
      refine s_aug (f := fun i j => i + j) rfl (ev_ixt rfl (ex_t (e2.trans e3) hy1) rfl) fun H4 e4 => ⟨((e.trans e2).trans e3).trans e4, some (.ref p), ?_⟩
      have t1 := sum_take (f := fun z => z.1) hy
      have t2 := sum_take (f := fun z => z.2.1) hy
      have t3 := sum_take (f := fun z => z.2.2) hy
      show _ = [_, some (V.int ((xs.take (i + 1)).map (fun z => z.1)).sum), some (V.int ((xs.take (i + 1)).map (fun z => z.2.1)).sum), some (V.int ((xs.take (i + 1)).map (fun z => z.2.2)).sum), _]
      rw [t1, t2, t3]
      rfl
    · rintro σ' H' ⟨e, v, rfl⟩
      rw [List.length_map, hl, List.take_length]
      exact s_retU (eu_tup (ea_cons (ev_var rfl) (ea_cons (ev_var rfl) (ea_cons (ev_var rfl) ea_nil))) (by simp)) fun p H2 hp e2 h2 => k p H2 (fresh_back e hp) (e.trans e2) h2
end
end Hs
namespace Hs
open PySem PySem.Spec PyProof.Rows L2 Evl
/-! ### comprehensions over texts and tuples, joins, sums -/
section
variable {σ : L2.St} {H : Hp} {K : PySem.W.Frag} {t : TT} {te : TE}
theorem el_lcS {z : Str} {tl : TE} {j : Nat} {vs : List Nat} (f : Nat → Bool) (v : Nat → V) (h : Ev tl σ H (.str z)) (hz : z.cps.size ≤ 40000) (hw : ∀ x, wipe ((wipe σ vs).set j (some x)) vs = wipe σ vs)
    (ht : ∀ (i : Nat) (c : Nat) H1, Ex H H1 → z.cps[i]? = some c → EvT t ((wipe σ vs).set j (some (.str ⟨#[c]⟩))) H1 (f i)) (he : ∀ (i : Nat) (c : Nat) H1, Ex H H1 → z.cps[i]? = some c → f i = true → Ev te ((wipe σ vs).set j (some (.str ⟨#[c]⟩))) H1 (v i)) :
    EvL (tLc (iStr tl) (gName j) t te vs) σ H (given z.cps.size f v) := fun H0 e Q q => h H0 e _ fun H1 e1 => ⟨z, rfl, fun Dl hD =>
  ⟨fun i m H' => Cw H1 f v Dl i H' ∧ i ≤ z.cps.size ∧ m = z.cps.size - i, ⟨_, ⟨hD, Ex.new hD, upd_same⟩, Nat.zero_le _, rfl⟩, fun i m H' hW => by
    obtain ⟨p, hi, hm⟩ := hW
    by_cases hlt : i < z.cps.size
    · refine .inr ⟨hlt, fun H'' => Cw H1 f v Dl (i + 1) H'', fun H'' p' => ⟨z.cps.size - (i + 1), by omega, p', by omega, rfl⟩, fun x H'' hy => ?_⟩
      obtain ⟨eH, c, hc, ev⟩ := hy
      subst eH ev
      exact ⟨hw _, cw_turn p (by omega) (ht i c H1 (e.trans e1) hc) (fun hf => he i c H1 (e.trans e1) hc hf)⟩
    · have ei : i = z.cps.size := by omega
      subst ei
      exact .inl ⟨Nat.le_refl _, q Dl H' (fresh_back e1 p.1) (e1.trans p.2.1) p.2.2⟩⟩⟩
theorem ev_join {tl : TE} {ys : List Str} (h : EvL tl σ H (ys.map V.str)) (hz : (ys.map (·.length)).sum + ys.length * (Str.ofString "").length ≤ 16777216) :
    Ev (tM1 (fun x xs H Q => ∃ a p, ∃ ys : List Str, x = .str a ∧ xs = [.ref p] ∧ (SqL K H p (ys.map V.str) ∨ SqT K H p (ys.map V.str)) ∧ (ys.map (·.length)).sum + ys.length * a.length ≤ 16777216 ∧ Q (.str (Txt.join a ys)) H) (tC (.str "")) tl) σ H (.str (Txt.join "" ys)) := fun H1 e Q q =>
  ⟨⟨_, rfl⟩, h H1 e _ fun p H2 hp e2 h2 => ⟨"", p, ys, rfl, rfl, .inl (sq_of h2), hz, q H2 e2⟩⟩
theorem et_yes : EvT tYes σ H true := fun H1 _ _ q => q H1 (Ex.refl H1)
theorem ev_pick2 {c : Nat} {z : Str} {i : Int} {tl ti tz : TE} (hl : Ev tl σ H (.str ⟨#[c]⟩)) (hz : Ev tz σ H (.str z)) (hi : Ev ti σ H (.int i)) : Ev (tIf (tTest (tOp rHas tl tz)) ti (tC (.int 0))) σ H (.int (pick c z i)) := by
  refine ev_if (b := has c z) (et_test (ev_op hl hz fun H1 _ Q q => ⟨c, z, rfl, rfl, q H1 (Ex.refl H1)⟩)) (fun hb => ?_) (fun hb => ?_)
  · exact ev_is hi (by rw [pick, if_pos hb])
  · exact ev_is ev_c (by rw [pick, if_neg (by rw [hb]; exact Bool.false_ne_true)])
theorem ev_sum {tl : TE} {ns : List Int} (h : EvL tl σ H (ns.map V.int)) : Ev (tCB (rSum K) (tCons tl tNil)) σ H (.int ns.sum) := fun H1 e Q q =>
  h H1 e _ fun p H2 hp e2 h2 => ⟨p, ns, rfl, sq_of h2, q H2 e2⟩
theorem eu_tuple {tl : TE} {xs : List V} (h : EvL tl σ H xs) : ∀ (H1 : Hp), Ex H H1 → ∀ Q : VK, (∀ p H2, H1 p = none → Ex H1 H2 → H2 p = some (.tup xs) → Q (.ref p) H2) →
    tCB (fun xs H Q => ∃ p ys, xs = [V.ref p] ∧ ((SqL K H p ys ∧ ∀ l, H l = none → Q (.ref l) (upd H l (.tup ys))) ∨ (SqT K H p ys ∧ Q (.ref p) H))) (tCons tl tNil) σ H1 Q := fun H1 e Q q =>
  h H1 e _ fun p H2 hp e2 h2 => ⟨p, xs, rfl, .inl ⟨sq_of h2, fun l hl => q l _ (fresh_back e2 hl) (e2.trans (Ex.new hl)) upd_same⟩⟩
end
/-- the letters of z that p takes, joined -/
def keepS (z : Str) (p : Nat → Bool) : List Str := ((List.range z.cps.size).filter fun i => p (z.cps.getD i 0)).map fun i => ⟨#[z.cps.getD i 0]⟩
def bothS (a b : Str) : Str := Txt.join "" (keepS a fun c => has c b)
def dueS (a b : Str) : Str := Txt.join "" (keepS "rgb" fun c => has c a && has c b)
theorem keepS_len (z : Str) (p : Nat → Bool) : (keepS z p).length ≤ z.cps.size := by
  unfold keepS
  rw [List.length_map]
  have h := List.length_filter_le (fun i => p (z.cps.getD i 0)) (List.range z.cps.size)
  rw [List.length_range] at h
  exact h
theorem keepS_sum (z : Str) (p : Nat → Bool) : ((keepS z p).map (·.length)).sum ≤ z.cps.size := by
  have h : ∀ l : List Nat, ((l.map fun i => (⟨#[z.cps.getD i 0]⟩ : Str)).map (·.length)).sum = l.length := fun l => by
    induction l with
    | nil => rfl
    | cons x r ih =>
      rw [List.map_cons, List.map_cons, List.sum_cons, ih, List.length_cons]
      show 1 + r.length = r.length + 1
      omega
  unfold keepS
  rw [h]
  have h2 := List.length_filter_le (fun i => p (z.cps.getD i 0)) (List.range z.cps.size)
  rw [List.length_range] at h2
  exact h2
theorem keepS_given (z : Str) (p : Nat → Bool) : (keepS z p).map V.str = given z.cps.size (fun i => p (z.cps.getD i 0)) fun i => .str ⟨#[z.cps.getD i 0]⟩ := by
  unfold keepS given
  rw [List.map_map]
  rfl
theorem at_getD {z : Str} {i c : Nat} (h : z.cps[i]? = some c) : z.cps.getD i 0 = c := by
  rw [Array.getD_eq_getD_getElem?, h]
  rfl
def spBoth (C : Addr) : Sp := fun vs H Q E => ∃ a b : Str, vs = [.str a, .str b] ∧ a.cps.size ≤ 40 ∧ ((good a && good b) = false → Flies C "badsift" H E) ∧ ((good a && good b) = true → RetV (.str (bothS a b)) H Q)
section
variable {P : Program} {w : World} {K : PySem.W.Frag} {mg : Str → Option Value} {base : Heap} {f C S : Addr} {fd : FuncData}
abbrev sBoth : Stmt := top 16
theorem scBoth : FnScope ["one", "other", "letter"] ["one", "other"] (defScope sBoth) := ⟨rfl, rfl, rfl, by decide +kernel, rfl, by decide +kernel, by decide +kernel⟩
theorem ok_both (F : FnP K "both_sifts" sBoth f fd) (O_check_sift : OwnX P w K mg base 3 "check_sift" ["sift"] [] (spCheck C)) : FnOk P w K mg base (L2.CX P w) 4 f fd ["one", "other"] (spBoth C) := by
  have nd := scBoth.nd
  refine F.ok scBoth (fun vs H Q E h => ?_) (fun cdv A outer s H vs Q E hr h => ⟨_, (pss_cons (ps_expr (Hs.pe_ownT O_check_sift hr (by decide) (by rfl) (passes_call (takes_of rfl rfl rfl rfl) (fun _ _ _ _ h => h)) (pa_cons (pv 0) pa_nil)))
  (pss_cons (ps_expr (Hs.pe_ownT O_check_sift hr (by decide) (by rfl) (passes_call (takes_of rfl rfl rfl rfl) (fun _ _ _ _ h => h)) (pa_cons (pv 1) pa_nil)))
  (pss_one (ps_ret (pe_join pe_str (pe_lc (own := [("letter", 2)]) rfl nd (pi_str (pv 0)) (blkOk_by (N := ["one", "other", "letter"]) (sc := defScope (Hs.top 16)) (by decide +kernel)) (fun _ _ _ _ _ => (pg_name (i := 2) nd rfl (Or.inl rfl))) (fun _ _ _ _ _ => (pts_one (pt_cmpR (Hs.op_has) (pv 2) (pv 1) (by rfl)))) (fun _ _ _ _ _ => (pv 2)))))))), ?_⟩)
  · obtain ⟨a, b, rfl, _⟩ := h
    rfl
  · obtain ⟨a, b, rfl, ha, kE, k⟩ := h
    refine ⟨_, rfl, a, rfl, fun hg => kE (by rw [hg] <;> rfl), fun hg H1 e1 => ?_⟩
    refine ⟨_, rfl, b, rfl, fun hg2 d H' e n hd => kE (by rw [hg2, Bool.and_false]) d H' (e1.trans e) (fresh_back e1 n) hd, fun hg2 H2 e2 => ?_⟩
    refine s_ret (v := .str (bothS a b)) (ev_join (K := K) ?_ ?_) fun H3 e3 => k (by rw [hg, hg2] <;> rfl) H3 ((e1.trans e2).trans e3)
    · rw [keepS_given]
      refine el_lcS _ _ (ev_var rfl) (by omega) (fun _ => rfl) (fun i c H3 _ hc => ?_) (fun i c H3 _ hc _ => ?_)
      · rw [at_getD hc]
        exact et_test (ev_op (ev_var rfl) (ev_var rfl) fun H4 _ Q q => ⟨c, b, rfl, rfl, q H4 (Ex.refl H4)⟩)
      · rw [at_getD hc]
        exact ev_var rfl
    · have h1 := keepS_sum a fun c => has c b
      have h2 : (Str.ofString "").length = 0 := rfl
      rw [h2, Nat.mul_zero]
      omega
/-! ### the law's own sifting -/
def spSift (K : PySem.W.Frag) : Sp := fun vs H Q _ => ∃ (a : Addr) (x : Tri) (z : Str), vs = [.ref a, .str z] ∧ SqT K H a (tri x) ∧ RetU (tri (siftT x z)) H Q
abbrev sSift : Stmt := top 24
theorem scSift : FnScope ["_law_tint_here", "_law_letters_here", "_law_k"] ["_law_tint_here", "_law_letters_here"] (defScope sSift) := ⟨rfl, rfl, rfl, by decide +kernel, rfl, by decide +kernel, by decide +kernel⟩
theorem ok_sift (F : FnP K "_law_sift" sSift f fd) (g_tuple : mg "tuple" = none) (g_range : mg "range" = none) : FnOk P w K mg base CX0 1 f fd ["_law_tint_here", "_law_letters_here"] (spSift K) := by
  have nd := scSift.nd
  refine F.ok scSift (fun vs H Q E h => ?_) (fun cdv A outer s H vs Q E hr h => ⟨_, PSs.nox (pss_one (ps_ret (pe_callTy call_tuple_of (by rfl) g_tuple (by decide +kernel) (pa_cons (pe_lc (own := [("_law_k", 2)]) rfl nd (pi_range1 (by rfl) g_range (pa_cons pe_int pa_nil)) (blkOk_by (N := ["_law_tint_here", "_law_letters_here", "_law_k"]) (sc := defScope (Hs.top 24)) (by decide +kernel)) (fun _ _ _ _ _ => (pg_name (i := 2) nd rfl (Or.inl rfl))) (fun _ _ _ _ _ => pts_nil) (fun _ _ _ _ _ => (pe_ifExp (pt_cmpR (Hs.op_has) (pe_ix (r := rIxS) ix_str pe_str (pv 2) (fun _ _ => rfl)) (pv 1) (by rfl)) (pe_ix (r := rIxT K) ix_tup (pv 0) (pv 2) (fun _ _ => rfl)) pe_int))) pa_nil)))), ?_⟩)
  · obtain ⟨a, x, z, rfl, _⟩ := h
    rfl
  · obtain ⟨a, x, z, rfl, hx, k⟩ := h
    refine eu_tuple (K := K) (xs := tri (siftT x z)) (el_lcR1 (n := 3) (fun _ => true) (fun i => .int ([pick 114 z x.1, pick 103 z x.2.1, pick 98 z x.2.2].getD i 0)) (ea_cons ev_c ea_nil) (by decide) (fun _ => rfl) (fun i H1 _ _ => et_yes) (fun i H1 e1 hi _ => ?_)) H (Ex.refl H) _ k
    obtain rfl | rfl | rfl : i = 0 ∨ i = 1 ∨ i = 2 := by omega
    · exact ev_pick2 (c := 114) (ev_op ev_c (ev_var rfl) (rv_ixS (by decide) rfl)) (ev_var rfl) (ev_op (ev_var rfl) (ev_var rfl) (rv_ixT (ex_t e1 hx) rfl))
    · exact ev_pick2 (c := 103) (ev_op ev_c (ev_var rfl) (rv_ixS (by decide) rfl)) (ev_var rfl) (ev_op (ev_var rfl) (ev_var rfl) (rv_ixT (ex_t e1 hx) rfl))
    · exact ev_pick2 (c := 98) (ev_op ev_c (ev_var rfl) (rv_ixS (by decide) rfl)) (ev_var rfl) (ev_op (ev_var rfl) (ev_var rfl) (rv_ixT (ex_t e1 hx) rfl))
/-! ### the law's own sums -/
def spSum (K : PySem.W.Frag) : Sp := fun vs H Q _ => ∃ (a : Addr) (ps : List Addr) (xs : List Tri), vs = [.ref a] ∧ SqL K H a (ps.map V.ref) ∧ Lights K H ps xs ∧ xs.length ≤ 1000 ∧ RetU (tri (sum3 xs)) H Q
abbrev sSum : Stmt := top 25
theorem scSum : FnScope ["_law_some", "_law_k", "_law_one_here"] ["_law_some"] (defScope sSum) := ⟨rfl, rfl, rfl, by decide +kernel, rfl, by decide +kernel, by decide +kernel⟩
/-- the k-th part -/
def part (k : Nat) (x : Tri) : Int := [x.1, x.2.1, x.2.2].getD k 0
theorem part_at {x : Tri} {k : Nat} (h : k < 3) : atI (tri x) (k : Int) = some (.int (part k x)) := by
  obtain rfl | rfl | rfl : k = 0 ∨ k = 1 ∨ k = 2 := by omega
  · rfl
  · rfl
  · rfl
theorem given_all {n : Nat} {v : Nat → V} : given n (fun _ => true) v = (List.range n).map v := by
  unfold given
  rw [List.filter_eq_self.mpr fun _ _ => rfl]
theorem parts_given {xs : List Tri} {k : Nat} : given xs.length (fun _ => true) (fun i => .int (part k (xs.getD i (0, 0, 0)))) = (xs.map (part k)).map V.int := by
  rw [given_all]
  refine List.ext_getElem (by simp) fun i h1 h2 => ?_
  simp [List.getD_eq_getElem?_getD]
  rw [List.getElem?_eq_getElem (by simpa using h2)]
  rfl
theorem ok_sum (F : FnP K "_law_sum" sSum f fd) (g_tuple : mg "tuple" = none) (g_range : mg "range" = none) (g_sum : mg "sum" = none) : FnOk P w K mg base CX0 1 f fd ["_law_some"] (spSum K) := by
  have nd := scSum.nd
  refine F.ok scSum (fun vs H Q E h => ?_) (fun cdv A outer s H vs Q E hr h => ⟨_, PSs.nox (pss_one (ps_ret (pe_callTy call_tuple_of (by rfl) g_tuple (by decide +kernel) (pa_cons (pe_lc (own := [("_law_k", 1)]) rfl nd (pi_range1 (by rfl) g_range (pa_cons pe_int pa_nil)) (blkOk_by (N := ["_law_some", "_law_k", "_law_one_here"]) (sc := defScope (Hs.top 25)) (by decide +kernel)) (fun _ _ _ _ _ => (pg_name (i := 1) nd rfl (Or.inr rfl))) (fun _ _ _ _ _ => pts_nil) (fun _ _ _ _ _ => (pe_callB (r := rSum K) (cr_sum rfl) (by rfl) g_sum (by decide +kernel) (pa_cons (pe_lc (own := [("_law_one_here", 2)]) rfl nd (Hs.pi_listK (K := K) (pv 0)) (blkOk_by (N := ["_law_some", "_law_k", "_law_one_here"]) (by rfl)) (fun _ _ _ _ _ => (pg_name (i := 2) nd rfl (Or.inl rfl))) (fun _ _ _ _ _ => pts_nil) (fun _ _ _ _ _ => (pe_ix (r := rIxT K) ix_tup (pv 2) (pv 1) (fun _ _ => rfl)))) pa_nil)))) pa_nil)))), ?_⟩)
  · obtain ⟨a, ps, xs, rfl, _⟩ := h
    rfl
  · obtain ⟨a, ps, xs, rfl, hS, ⟨hl, hL⟩, hz, k⟩ := h
    refine eu_tuple (K := K) (xs := tri (sum3 xs)) (el_lcR1 (n := 3) (fun _ => true) (fun i => .int ((xs.map (part i)).sum)) (ea_cons ev_c ea_nil) (by decide) (fun _ => rfl) (fun i H1 _ _ => et_yes) (fun i H1 e1 hi _ => ?_)) H (Ex.refl H) _ k
    refine ev_sum (K := K) ?_
    rw [← parts_given]
    have hl2 : (ps.map V.ref).length = xs.length := by rw [List.length_map, hl]
    rw [← hl2]
    refine el_lcL (fun _ => true) _ (ev_var rfl) (ex_l e1 hS) (by omega) (fun _ => rfl) (fun i x H2 _ _ => et_yes) (fun j x H2 e2 hx _ => ?_)
    rw [List.getElem?_map] at hx
    obtain ⟨p, hp, rfl⟩ := Option.map_eq_some_iff.mp hx
    obtain ⟨y, hy⟩ : ∃ y, xs[j]? = some y := by
      have : j < xs.length := by
        rw [← hl]
        exact (List.getElem?_eq_some_iff.mp hp).1
      exact ⟨_, List.getElem?_eq_getElem this⟩
    have hy1 := st_of (K := K) ((e1.trans e2) _ _ (hL j p y hp hy))
    have ey : xs.getD j (0, 0, 0) = y := by
      rw [List.getD_eq_getElem?_getD, hy]
      rfl
    rw [ey]
    exact ev_op (ev_var rfl) (ev_var rfl) (rv_ixT hy1 (part_at (by omega)))
end
end Hs
namespace Hs
open PySem PySem.Spec PyProof.Rows L2 Evl
def S8 : List Str := ["", "r", "g", "b", "rg", "rb", "gb", "rgb"]
theorem letters_at {v : Int} (h0 : 0 ≤ v) (h1 : v < 8) : ∃ z ∈ S8, atI siftsV v = some (.str z) := by
  obtain rfl | rfl | rfl | rfl | rfl | rfl | rfl | rfl : v = 0 ∨ v = 1 ∨ v = 2 ∨ v = 3 ∨ v = 4 ∨ v = 5 ∨ v = 6 ∨ v = 7 := by omega
  all_goals exact ⟨_, by decide, rfl⟩
theorem bag_ne {H : Hp} {b l p : Addr} {ns : List Int} {n : Nat} (B : BagAt H b l ns n) (hp : H p = none) : p ≠ b := fun z => by
  obtain ⟨i, y, s, c, h, _⟩ := B.ex
  rw [← z, hp] at h
  cases h
def spLetters : Sp := fun vs H Q _ => ∃ (b l : Addr) (ns : List Int) (n : Nat), vs = [.ref b] ∧ BagAt H b l ns n ∧ n < 900000 ∧ ∀ (z : Str) (H' : Hp), z ∈ S8 → BagAt H' b l ns (n + 1) → But H H' b → Q (.str z) H'
def spOne (K : PySem.W.Frag) : Sp := fun vs H Q _ => ∃ (b l a : Addr) (ns : List Int) (n : Nat) (xs : List V), vs = [.ref b, .ref a] ∧ BagAt H b l ns n ∧ n < 900000 ∧ H a = some (.lst xs) ∧ a ≠ b ∧ 0 < xs.length ∧ xs.length ≤ 1000 ∧
  ∀ (v : V) (H' : Hp), v ∈ xs → BagAt H' b l ns (n + 1) → But H H' b → Q v H'
def triB (x : Tri) : Prop := (0 ≤ x.1 ∧ x.1 ≤ 1000000) ∧ (0 ≤ x.2.1 ∧ x.2.1 ≤ 1000000) ∧ (0 ≤ x.2.2 ∧ x.2.2 ≤ 1000000)
def spTint : Sp := fun vs H Q _ => ∃ (b l : Addr) (ns : List Int) (n : Nat), vs = [.ref b] ∧ BagAt H b l ns n ∧ n < 900000 ∧ ∀ (p : Addr) (x : Tri) (H' : Hp), triB x → H p = none → H' p = some (.tup (tri x)) → BagAt H' b l ns (n + 6) → But H H' b → Q (.ref p) H'
section
variable {P : Program} {w : World} {K : PySem.W.Frag} {mg : Str → Option Value} {base : Heap} {f : Addr} {fd : FuncData}
abbrev sLetters : Stmt := top 27
theorem scLetters : FnScope ["_law_bag_here"] ["_law_bag_here"] (defScope sLetters) := ⟨rfl, rfl, rfl, by decide +kernel, rfl, by decide +kernel, by decide +kernel⟩
theorem ok_letters (F : FnP K "_law_letters" sLetters f fd) (O__law_pull : Own P w K mg base 1 "_law_pull" ["_law_bag_here", "_law_many"] spPull) : FnOk P w K mg base CX0 2 f fd ["_law_bag_here"] spLetters := by
  have nd := scLetters.nd
  refine F.ok scLetters (fun vs H Q E h => ?_) (fun cdv A outer s H vs Q E hr h => ⟨_, PSs.nox (pss_one (ps_ret (pe_ix (r := rIxL K) ix_list (pe_lst (pa_cons pe_str (pa_cons pe_str (pa_cons pe_str (pa_cons pe_str (pa_cons pe_str (pa_cons pe_str (pa_cons pe_str (pa_cons pe_str pa_nil))))))))) (Hs.pe_own O__law_pull hr (by first | decide | omega) (by rfl) (pa_cons (pv 0) (pa_cons pe_int pa_nil))) (fun _ _ => rfl)))), ?_⟩)
  · obtain ⟨b, l, ns, n, rfl, _⟩ := h
    rfl
  · obtain ⟨b, l, ns, n, rfl, B, hn, k⟩ := h
    refine ⟨sz_of (by simp), fun p hp => ⟨_, rfl, b, l, ns, n, 8, rfl, B.ext (Ex.new hp) (Nat.le_refl _), by omega, by decide, by decide, fun v H1 v0 v1 B1 b1 => ?_⟩⟩
    obtain ⟨z, hz, hat⟩ := letters_at v0 v1
    exact ⟨p, siftsV, v, _, rfl, rfl, sq_of (b1 _ _ upd_same (bag_ne B hp)), hat, k z H1 hz B1 ((But.of (Ex.new hp)).trans b1)⟩
abbrev sOne : Stmt := top 20
theorem scOne : FnScope ["_law_bag_here", "_law_some"] ["_law_bag_here", "_law_some"] (defScope sOne) := ⟨rfl, rfl, rfl, by decide +kernel, rfl, by decide +kernel, by decide +kernel⟩
theorem ok_one (F : FnP K "_law_one" sOne f fd) (O__law_pull : Own P w K mg base 1 "_law_pull" ["_law_bag_here", "_law_many"] spPull) (g_len : mg "len" = none) : FnOk P w K mg base CX0 2 f fd ["_law_bag_here", "_law_some"] (spOne K) := by
  have nd := scOne.nd
  refine F.ok scOne (fun vs H Q E h => ?_) (fun cdv A outer s H vs Q E hr h => ⟨_, PSs.nox (pss_one (ps_ret (pe_ix (r := rIxL K) ix_list (pv 1) (Hs.pe_own O__law_pull hr (by first | decide | omega) (by rfl) (pa_cons (pv 0) (pa_cons (pe_callB (r := Evl.rLenS K) call_len_seq (by rfl) g_len PySem.boot_len (pa_cons (pv 1) pa_nil)) pa_nil))) (fun _ _ => rfl)))), ?_⟩)
  · obtain ⟨b, l, a, ns, n, xs, rfl, _⟩ := h
    rfl
  · obtain ⟨b, l, a, ns, n, xs, rfl, B, hn, ha, hne, h0, h1, k⟩ := h
    refine ⟨_, rfl, _, rfl, _, rfl, a, xs, rfl, .inl (sq_of ha), b, l, ns, n, _, rfl, B, by omega, by omega, by omega, fun v H1 v0 v1 B1 b1 => ?_⟩
    have hi : v.toNat < xs.length := by omega
    have hat : atI xs v = some xs[v.toNat] := by
      have e : ((v.toNat : Nat) : Int) = v := by omega
      have q := atI_nat (xs := xs) (j := v.toNat) (List.getElem?_eq_getElem hi)
      rw [e] at q
      exact q
    exact ⟨a, xs, v, _, rfl, rfl, sq_of (b1 _ _ ha hne), hat, k _ H1 (List.getElem_mem hi) B1 b1⟩
abbrev sTint : Stmt := top 26
theorem scTint : FnScope ["_law_bag_here", "_law_found", "_law_k", "_law_wide"] ["_law_bag_here"] (defScope sTint) := ⟨rfl, rfl, rfl, by decide +kernel, rfl, by decide +kernel, by decide +kernel⟩
theorem tint_at {wd v : Int} (hw : 0 ≤ wd ∧ wd ≤ 1000000) (h0 : 0 ≤ v) (h1 : v < 6) : ∃ z : Int, atI [V.int 0, .int 1, .int 255, .int (10 ^ 6), .int (wd.fmod 10), .int wd] v = some (.int z) ∧ 0 ≤ z ∧ z ≤ 1000000 := by
  have hm := modP (i := wd) (j := 10) (by decide)
  obtain rfl | rfl | rfl | rfl | rfl | rfl : v = 0 ∨ v = 1 ∨ v = 2 ∨ v = 3 ∨ v = 4 ∨ v = 5 := by omega
  · exact ⟨_, rfl, by decide, by decide⟩
  · exact ⟨_, rfl, by decide, by decide⟩
  · exact ⟨_, rfl, by decide, by decide⟩
  · exact ⟨_, rfl, by decide, by decide⟩
  · exact ⟨_, rfl, by omega, by omega⟩
  · exact ⟨_, rfl, hw.1, hw.2⟩
theorem ok_tint (F : FnP K "_law_tint" sTint f fd) (O__law_pull : Own P w K mg base 1 "_law_pull" ["_law_bag_here", "_law_many"] spPull) (g_range : mg "range" = none) (g_tuple : mg "tuple" = none) : FnOk P w K mg base CX0 2 f fd ["_law_bag_here"] spTint := by
  have nd := scTint.nd
  refine F.ok scTint (fun vs H Q E h => ?_) (fun cdv A outer s H vs Q E hr h => ⟨_, PSs.nox (pss_cons (ps_set (i := 1) nd rfl (.inl rfl) (pe_lst pa_nil))
  (pss_cons (ps_for PassesOwn.never rfl (pi_range1 (by rfl) g_range (pa_cons pe_int pa_nil)) (pg_name (i := 2) nd rfl (.inl rfl)) (pss_cons (ps_set (i := 3) nd rfl (.inl rfl) (Hs.pe_own O__law_pull hr (by first | decide | omega) (by rfl) (pa_cons (pv 0) (pa_cons (pe_op op_add (pe_op op_pow pe_int pe_int) pe_int) pa_nil))))
  (pss_one (ps_expr (pe_bm PySem.F.plainAttrs_list PySem.F.slot_list_append PySem.F.type_list_append mt_append (pv 1) (pa_cons (pe_ix (r := rIxL K) ix_list (pe_lst (pa_cons pe_int (pa_cons pe_int (pa_cons pe_int (pa_cons (pe_op op_pow pe_int pe_int) (pa_cons (pe_op op_modN (pv 3) pe_int) (pa_cons (pv 3) pa_nil))))))) (Hs.pe_own O__law_pull hr (by first | decide | omega) (by rfl) (pa_cons (pv 0) (pa_cons pe_int pa_nil))) (fun _ _ => rfl)) pa_nil))))))
  (pss_one (ps_ret (pe_callTy call_tuple_of (by rfl) g_tuple (by decide +kernel) (pa_cons (pv 1) pa_nil)))))), ?_⟩)
  · obtain ⟨b, l, ns, n, rfl, _⟩ := h
    rfl
  · obtain ⟨b, l, ns, n, rfl, B, hn, k⟩ := h
    refine ⟨sz_of (by simp), fun fl hfl => ?_⟩
    have nfb := bag_ne B hfl
    have nfl : fl ≠ l := Ne.symm (ne_of_none B.ls hfl)
    show tSeq _ _ _ [some (.ref b), some (.ref fl), none, none] _
    refine q_forR1 (n := 3) (ea_cons ev_c ea_nil) (by decide) (fun i σ' H' => ∃ (v2 v3 : Option V) (zs : List Int), σ' = [some (.ref b), some (.ref fl), v2, v3] ∧ BagAt H' b l ns (n + 2 * i) ∧ But H H' b ∧ H' fl = some (.lst (zs.map V.int)) ∧ zs.length = i ∧ ∀ z ∈ zs, 0 ≤ z ∧ z ≤ 1000000) ?_ ?_ ?_
    · intro H1 e1
      exact ⟨none, none, [], rfl, (B.ext (Ex.new hfl) (Nat.le_refl _)).ext e1 (by omega), But.of ((Ex.new hfl).trans e1), e1 _ _ upd_same, rfl, fun z hz => by cases hz⟩
    · rintro i σ' H1 hi ⟨v2, v3, zs, rfl, B1, b1, hf1, hz, hzs⟩
      refine ⟨_, rfl, _, _, rfl, rfl, ⟨by decide, by decide, by decide⟩, _, _, rfl, rfl, b, l, ns, n + 2 * i, _, rfl, B1, by omega, by decide, by decide, fun wd H2 w0 w1 B2 b2 => ?_⟩
      have hf2 := b2 _ _ hf1 nfb
      have wb : 0 ≤ wd ∧ wd ≤ 1000000 := ⟨w0, by
        have e : (10 : Int) ^ Int.toNat 6 = 1000000 := by decide
        omega⟩
      refine ⟨_, rfl, .inl ⟨rfl, _, sq_of hf2⟩, ?_⟩
      refine ⟨_, _, rfl, rfl, ⟨by decide, by decide, by decide⟩, _, rfl, _, _, rfl, rfl, (show (10 : Int) ≠ 0 by decide), _, rfl, sz_of (by simp), fun p hp => ?_⟩
      have e3 := Ex.new (o := .lst [V.int 0, .int 1, .int 255, .int (10 ^ 6), .int (wd.fmod 10), .int wd]) hp
      refine ⟨_, rfl, b, l, ns, n + 2 * i + 1, 6, rfl, B2.ext e3 (Nat.le_refl _), by omega, by decide, by decide, fun v H4 v0 v1 B4 b4 => ?_⟩
      obtain ⟨z, hat, z0, z1⟩ := tint_at wb v0 v1
      have hf4 := b4 _ _ (e3 _ _ hf2) nfb
      refine ⟨p, _, v, _, rfl, rfl, sq_of (b4 _ _ upd_same (bag_ne B2 hp)), hat, fl, _, _, rfl, rfl, hf4, sz_lt (by rw [List.length_map]; omega), ?_⟩
      refine ⟨_, _, zs ++ [z], rfl, bag_upd (B4.ext (Ex.refl _) (by omega)) (Ne.symm nfb) (Ne.symm nfl), fun a o ha hb => ?_, by rw [upd_same, List.map_append] <;> rfl, by rw [List.length_append, hz] <;> rfl, fun y hy => ?_⟩
      · rw [upd_ne (ne_of_none ha hfl)]
        exact b4 _ _ (e3 _ _ (b2 _ _ (b1 _ _ ha hb) hb)) hb
      · rcases List.mem_append.mp hy with q | q
        · exact hzs y q
        · rw [List.mem_singleton.mp q]
          exact ⟨z0, z1⟩
    · rintro σ' H1 ⟨v2, v3, zs, rfl, B1, b1, hf1, hz, hzs⟩
      obtain ⟨x, y, z, rfl⟩ : ∃ x y z, zs = [x, y, z] := match zs, hz with
        | [x, y, z], _ => ⟨x, y, z, rfl⟩
      refine ⟨_, rfl, fl, _, rfl, .inl ⟨sq_of hf1, fun p hp => ?_⟩⟩
      refine k p (x, y, z) _ ⟨hzs x (by simp), hzs y (by simp), hzs z (by simp)⟩ ?_ upd_same (B1.ext (Ex.new hp) (by show n + 2 * 3 ≤ n + 6; omega)) (b1.ex (Ex.new hp))
      cases hq : H p with
      | none => rfl
      | some o =>
        by_cases hpb : p = b
        · obtain ⟨i, y, s, c, h, _⟩ := B1.ex
          rw [hpb, h] at hp
          cases hp
        · rw [b1 _ _ hq hpb] at hp
          cases hp
end
end Hs
namespace Hs
open PySem PySem.Spec PyProof.Rows L2 Evl LamX NdefX
/-- lambda: g(x1, x2), both names captured -/
theorem lok_call2 {P : Program} {w : World} {K : PySem.W.Frag} {mg : Str → Option Value} {base : Heap} {F : LF} {g x1 x2 : Str} {sp : Sp} {k : Nat} {ps : List Str} {p0 p1 p2 pos : Pos} (hb : F.body = .Call (.Name g p0) [.Name x1 p1, .Name x2 p2] [] pos) (hp : F.params = ⟨[], [], none, [], [], none, []⟩)
    (S : NScope [x1, x2] [] [x1, x2] F.scope) (hg : F.scope.names.lookup g = some .globalImplicit) (O : OwnX P w K mg base k g ps [] sp) (hd : (g == ("__debug__" : Str)) = false := by decide) (hd1 : (x1 == ("__debug__" : Str)) = false := by decide) (hc1 : (x1 == ("__classdict__" : Str)) = false := by decide) (hd2 : (x2 == ("__debug__" : Str)) = false := by decide) (hc2 : (x2 == ("__classdict__" : Str)) = false := by decide) :
    LOk P w K mg base (L2.CX P w) (k + 1) F [] [x1, x2] (fun ws vs H Q E => vs = [] ∧ ∃ v1 v2, ws = [some v1, some v2] ∧ sp [v1, v2] H Q E) := by
  refine lok_of S (fun pm ctv us hl => ?_) (fun ws vs H Q E h => by rw [h.1] <;> rfl) (fun A outer s H f vs ws Q E hr hl h => ?_)
  · cases us with
    | nil =>
      rw [hp]
      rfl
    | cons u r => cases hl
  · obtain ⟨rfl, v1, v2, rfl, hs⟩ := h
    refine ⟨_, by rw [hb]; exact pe_ownT O hr (Nat.le_refl _) hg (passes_call (E := E) (takes_of rfl rfl rfl rfl) (fun _ _ _ _ h => h)) (pa_cons (pe_var (i := 0) rfl (.inr (.inr (S.frk _ (by simp)))) hd1 hc1) (pa_cons (pe_var (i := 1) rfl (.inr (.inr (S.frk _ (by simp)))) hd2 hc2) pa_nil)) hd, ?_⟩
    exact ⟨_, rfl, _, rfl, hs⟩
/-- an error flies out of f: the catcher tells its word -/
theorem tells_fly {P : Program} {w : World} {K : PySem.W.Frag} {mg : Str → Option Value} {base : Heap} {k : Nat} {q wd : Str} {cN cL cK cB cS cM cC C : Addr} {H : Hp} {f : Addr} {F : LF} {fr : List Str} {ws : List (Option V)} {sp : List (Option V) → Sp} (Fn : LOk P w K mg base (L2.CX P w) k F [] fr sp) (hC : CellsAt F.cl fr ws base fun _ => none) (hq : F.qual = q)
    (hf : H f = some (LamO f F)) (hc : H F.c = some (CodeO F.c F.qual)) (wc : Word K C cN cL cK cB cS cM cC) (hs : ∀ H' Q E, Ex H H' → (∀ d H2, Ex H' H2 → H' d = none → H2 d = some (.xd [("word", .str wd)]) → E (.ref C) (some d) H2) → sp ws [] H' Q E) : Tells P w K mg base k q cN cL cK cB cS cM cC H f [.str wd] := fun H' e =>
  ⟨_, ⟨F, fr, ws, sp, hq, Fn, hC, e _ _ hf, e _ _ hc, rfl⟩, fun Q kk => ⟨e _ _ hf, hs H' _ _ e fun d H2 e2 _ hd => ⟨C, d, _, wd, rfl, rfl, wc, hd, rfl, fun p hp => kk p _ (fresh_back e2 hp) (e2.trans (Ex.new hp)) upd_same⟩⟩⟩
end Hs
namespace Hs
open PySem PySem.Spec PyProof.Rows L2 Evl
theorem sm_flat {K : PySem.W.Frag} {H : Hp} {d : Nat} {v : V} (h : flatV v = true) : Sm K H (d + 1) v v := .inl ⟨rfl, h⟩
theorem sm_row {K : PySem.W.Frag} {H : Hp} {d : Nat} {xs : List V} (hf : xs.all flatV = true) (i : Nat) (x y : V) (hx : xs[i]? = some x) (hy : xs[i]? = some y) : Sm K H (d + 1) x y := by
  have e : x = y := Option.some.inj (hx.symm.trans hy)
  subst e
  exact sm_flat (List.all_eq_true.mp hf x (List.mem_of_getElem? hx))
theorem sm_tupF {K : PySem.W.Frag} {H : Hp} {d : Nat} {p q : Addr} {xs : List V} (h1 : SqT K H p xs) (h2 : SqT K H q xs) (hf : xs.all flatV = true) (hz : xs.length ≤ 1000) : Sm K H (d + 2) (.ref p) (.ref q) := .inr ⟨p, q, xs, xs, rfl, rfl, .inr ⟨h1, h2⟩, rfl, hz, sm_row hf⟩
section
variable {K : PySem.W.Frag} {σ : L2.St} {H : Hp} {t : TT} {te : TE}
theorem el_lcT {a : Addr} {xs : List V} {tl : TE} {j : Nat} {vs : List Nat} (f : Nat → Bool) (v : Nat → V) (h : Ev tl σ H (.ref a)) (hx : SqT K H a xs) (hz : xs.length ≤ 40000) (hw : ∀ x, wipe ((wipe σ vs).set j (some x)) vs = wipe σ vs)
    (ht : ∀ (i : Nat) (x : V) H1, Ex H H1 → xs[i]? = some x → EvT t ((wipe σ vs).set j (some x)) H1 (f i)) (he : ∀ (i : Nat) (x : V) H1, Ex H H1 → xs[i]? = some x → f i = true → Ev te ((wipe σ vs).set j (some x)) H1 (v i)) :
    EvL (tLc (iTup K tl) (gName j) t te vs) σ H (given xs.length f v) := fun H0 e Q q => h H0 e _ fun H1 e1 => ⟨a, rfl, ⟨xs, ex_t (e.trans e1) hx⟩, fun Dl hD =>
  lc_tup (xs := xs) (Cw H1 f v Dl) ⟨hD, Ex.new hD, upd_same⟩ (fun i H' _ p => ex_t ((e.trans e1).trans p.2.1) hx) (fun i x H' hi p => ⟨hw x, cw_turn p (by have := (List.getElem?_eq_some_iff.mp hi).1; omega) (ht i x H1 (e.trans e1) hi) (fun hf => he i x H1 (e.trans e1) hi hf)⟩)
    (fun H' p => q Dl H' (fresh_back e1 p.1) (e1.trans p.2.1) p.2.2)⟩
theorem et_neV {tx ty : TE} {u v : V} {d : PyData} (hx : Ev tx σ H u) (hy : Ev ty σ H v) (dx : ∀ H', Ex H H' → Dp K H' u d) (dy : ∀ H', Ex H H' → Dp K H' v d) (hs : SeqAt.shaped d = true) (he : PyData.eqv d d = true) : EvT (tTest (tOp (rNeD K) tx ty)) σ H false := fun H1 e Q q =>
  hx H1 e _ fun H2 e2 => hy H2 (e.trans e2) _ fun H3 e3 => ⟨d, d, dx H3 ((e.trans e2).trans e3), dy H3 ((e.trans e2).trans e3), hs, hs, false, by rw [he] <;> rfl, q H3 (e2.trans e3)⟩
theorem et_neU {tx ty : TE} {u : V} {xs : List V} {d : PyData} (hx : Ev tx σ H u) (hy : EvU ty σ H xs) (dx : ∀ H', Ex H H' → Dp K H' u d) (dy : ∀ p H', Ex H H' → H' p = some (.tup xs) → Dp K H' (.ref p) d) (hs : SeqAt.shaped d = true) (he : PyData.eqv d d = true) : EvT (tTest (tOp (rNeD K) tx ty)) σ H false := fun H1 e Q q =>
  hx H1 e _ fun H2 e2 => hy H2 (e.trans e2) _ fun p H3 hp e3 h3 => ⟨d, d, dx H3 ((e.trans e2).trans e3), dy p H3 ((e.trans e2).trans e3) h3, hs, hs, false, by rw [he] <;> rfl, q H3 (e2.trans e3)⟩
theorem et_neL {tx ty : TE} {v : V} {xs : List V} {d : PyData} (hx : EvL tx σ H xs) (hy : Ev ty σ H v) (dx : ∀ p H', Ex H H' → H' p = some (.lst xs) → Dp K H' (.ref p) d) (dy : ∀ H', Ex H H' → Dp K H' v d) (hs : SeqAt.shaped d = true) (he : PyData.eqv d d = true) : EvT (tTest (tOp (rNeD K) tx ty)) σ H false := fun H1 e Q q =>
  hx H1 e _ fun p H2 hp e2 h2 => hy H2 (e.trans e2) _ fun H3 e3 => ⟨d, d, dx p H3 ((e.trans e2).trans e3) (e3 _ _ h2), dy H3 ((e.trans e2).trans e3), hs, hs, false, by rw [he] <;> rfl, q H3 (e2.trans e3)⟩
theorem et_sameT {t1 t2 : TE} {xs : List V} {E : XK} {d : Nat} (h1 : EvU t1 σ H xs) (h2 : EvU t2 σ H xs) (hf : xs.all flatV = true) (hz : xs.length ≤ 1000) : EvT (tNot (tB (tCall (spSame K (d + 2)) [] E (tCons t1 (tCons t2 tNil))))) σ H false := fun H0 e0 Q q =>
  h1 H0 e0 _ fun p H1 n1 e1 b1 => h2 H1 (e0.trans e1) _ fun r H2 n2 e2 b2 => ⟨_, _, rfl, sm_tupF (st_of (e2 _ _ b1)) (st_of b2) hf hz, fun H3 e3 => ⟨true, rfl, q H3 ((e1.trans e2).trans e3)⟩⟩
theorem et_same2 {t1 t2 t3 t4 : TE} {u : V} {xs : List V} {E : XK} (h1 : Ev t1 σ H u) (h2 : EvU t2 σ H xs) (h3 : Ev t3 σ H u) (h4 : EvU t4 σ H xs) (hu : flatV u = true) (hf : xs.all flatV = true) (hz : xs.length ≤ 1000) :
    EvT (tNot (tB (tCall (spSame K 3) [] E (tCons (tLst (tCons t1 (tCons t2 tNil))) (tCons (tLst (tCons t3 (tCons t4 tNil))) tNil))))) σ H false := fun H0 e0 Q q =>
  h1 H0 e0 _ fun H1 e1 => h2 H1 (e0.trans e1) _ fun p H2 n2 e2 b2 => ⟨sz_of (by simp), fun l1 hl1 => h3 _ (((e0.trans e1).trans e2).trans (Ex.new hl1)) _ fun H3 e3 => h4 H3 ((((e0.trans e1).trans e2).trans (Ex.new hl1)).trans e3) _ fun r H4 n4 e4 b4 => ⟨sz_of (by simp), fun l2 hl2 => ⟨_, _, rfl, (by
    have x4 := (Ex.new (o := .lst [u, .ref r]) hl2)
    have x3 := (e3.trans e4).trans x4
    have q1 : SqL K (upd H4 l2 (.lst [u, .ref r])) l1 [u, .ref p] := sq_of (x3 _ _ upd_same)
    have q2 : SqL K (upd H4 l2 (.lst [u, .ref r])) l2 [u, .ref r] := sq_of upd_same
    refine .inr ⟨l1, l2, _, _, rfl, rfl, .inl ⟨q1, q2⟩, rfl, by show 2 ≤ 1000; decide, fun i x y hx hy => ?_⟩
    match i, hx, hy with
    | 0, hx, hy => cases hx; cases hy; exact sm_flat hu
    | 1, hx, hy => cases hx; cases hy; exact sm_tupF (st_of (x3 _ _ ((Ex.new hl1) _ _ b2))) (st_of (x4 _ _ b4)) hf hz
    | i + 2, hx, hy => cases hx), fun H5 e5 => ⟨true, rfl, q H5 (((((e1.trans e2).trans (Ex.new hl1)).trans e3).trans e4).trans ((Ex.new hl2).trans e5))⟩⟩⟩⟩
theorem eu_sifted {C a : Addr} {x : Tri} {z : Str} {E : XK} {ta tz : TE} (ha : Ev ta σ H (.ref a)) (hz : Ev tz σ H (.str z)) (hx : SqT K H a (tri x)) (hg : good z = true) : EvU (tCall (spSifted K C) [] E (tCons ta (tCons tz tNil))) σ H (tri (siftT x z)) := fun H1 e Q q =>
  ha H1 e _ fun H2 e2 => hz H2 (e.trans e2) _ fun H3 e3 => ⟨a, x, z, rfl, ex_t ((e.trans e2).trans e3) hx, fun h => absurd h (by rw [hg]; decide), fun _ p H4 hp e4 h4 => q p H4 (fresh_back (e2.trans e3) hp) ((e2.trans e3).trans e4) h4⟩
theorem eu_sifted2 {C : Addr} {x : Tri} {z : Str} {E : XK} {ta tz : TE} (ha : EvU ta σ H (tri x)) (hz : Ev tz σ H (.str z)) (hg : good z = true) : EvU (tCall (spSifted K C) [] E (tCons ta (tCons tz tNil))) σ H (tri (siftT x z)) := fun H1 e Q q =>
  ha H1 e _ fun a H2 n2 e2 h2 => hz H2 (e.trans e2) _ fun H3 e3 => ⟨a, x, z, rfl, st_of (e3 _ _ h2), fun h => absurd h (by rw [hg]; decide), fun _ p H4 hp e4 h4 => q p H4 (fresh_back (e2.trans e3) hp) ((e2.trans e3).trans e4) h4⟩
theorem eu_sift {a : Addr} {x : Tri} {z : Str} {E : XK} {ta tz : TE} (ha : Ev ta σ H (.ref a)) (hz : Ev tz σ H (.str z)) (hx : SqT K H a (tri x)) : EvU (tCall (spSift K) [] E (tCons ta (tCons tz tNil))) σ H (tri (siftT x z)) := fun H1 e Q q =>
  ha H1 e _ fun H2 e2 => hz H2 (e.trans e2) _ fun H3 e3 => ⟨a, x, z, rfl, ex_t ((e.trans e2).trans e3) hx, fun p H4 hp e4 h4 => q p H4 (fresh_back (e2.trans e3) hp) ((e2.trans e3).trans e4) h4⟩
theorem ev_both {C : Addr} {a b : Str} {E : XK} {ta tz : TE} (ha : Ev ta σ H (.str a)) (hz : Ev tz σ H (.str b)) (hl : a.cps.size ≤ 40) (hg : (good a && good b) = true) : Ev (tCall (spBoth C) [] E (tCons ta (tCons tz tNil))) σ H (.str (bothS a b)) := fun H1 e Q q =>
  ha H1 e _ fun H2 e2 => hz H2 (e.trans e2) _ fun H3 e3 => ⟨a, b, rfl, hl, fun h => absurd h (by rw [hg]; decide), fun _ H4 e4 => q H4 ((e2.trans e3).trans e4)⟩
theorem ev_due {z1 z2 : Str} {j : Nat} {vs : List Nat} (h5 : ∀ x, ((wipe σ vs).set j (some x))[5]? = some (some (.str z1))) (h6 : ∀ x, ((wipe σ vs).set j (some x))[6]? = some (some (.str z2))) (hj : ∀ x, ((wipe σ vs).set j (some x))[j]? = some (some x)) (hw : ∀ x, wipe ((wipe σ vs).set j (some x)) vs = wipe σ vs) :
    Ev (tM1 (fun x xs H Q => ∃ a p, ∃ ys : List Str, x = .str a ∧ xs = [.ref p] ∧ (SqL K H p (ys.map V.str) ∨ SqT K H p (ys.map V.str)) ∧ (ys.map (·.length)).sum + ys.length * a.length ≤ 16777216 ∧ Q (.str (Txt.join a ys)) H) (tC (.str "")) (tLc (iStr (tC (.str "rgb"))) (gName j) (tAnd (tTest (tOp rHas (tVar j) (tVar 5))) (tTest (tOp rHas (tVar j) (tVar 6)))) (tVar j) vs)) σ H (.str (dueS z1 z2)) := by
  refine ev_join (K := K) ?_ ?_
  · rw [keepS_given]
    refine el_lcS _ _ ev_c (by decide) hw (fun i c H3 _ hc => ?_) (fun i c H3 _ hc _ => ?_)
    · rw [at_getD hc]
      exact et_and (et_test (ev_op (ev_var (hj _)) (ev_var (h5 _)) fun H4 _ Q q => ⟨c, z1, rfl, rfl, q H4 (Ex.refl H4)⟩)) fun _ => et_test (ev_op (ev_var (hj _)) (ev_var (h6 _)) fun H4 _ Q q => ⟨c, z2, rfl, rfl, q H4 (Ex.refl H4)⟩)
    · rw [at_getD hc]
      exact ev_var (hj _)
  · have h1 := keepS_sum "rgb" fun c => has c z1 && has c z2
    have h2 : (Str.ofString "").length = 0 := rfl
    have h3 : (Str.ofString "rgb").cps.size = 3 := by decide
    rw [h2, Nat.mul_zero]
    omega
end
theorem good8 : ∀ z ∈ S8, good z = true ∧ z.cps.size ≤ 40 := by decide +kernel
theorem both8 : ∀ a ∈ S8, ∀ b ∈ S8, bothS a b = dueS a b := by decide +kernel
theorem due8 : ∀ a ∈ S8, ∀ b ∈ S8, has 114 (dueS a b) = (has 114 a && has 114 b) ∧ has 103 (dueS a b) = (has 103 a && has 103 b) ∧ has 98 (dueS a b) = (has 98 a && has 98 b) := by decide +kernel
theorem pick_pick {c : Nat} {a b d : Str} {i : Int} (h : has c d = (has c a && has c b)) : pick c b (pick c a i) = pick c d i := by
  unfold pick
  rw [h]
  cases has c a <;> cases has c b <;> rfl
theorem sift8 {a b : Str} (ha : a ∈ S8) (hb : b ∈ S8) (x : Tri) : siftT (siftT x a) b = siftT x (dueS a b) := by
  obtain ⟨h1, h2, h3⟩ := due8 a ha b hb
  unfold siftT
  rw [← pick_pick h1, ← pick_pick h2, ← pick_pick h3]
end Hs
namespace Hs
open PySem PySem.Spec PyProof.Rows L2 Evl
def triD (x : Tri) : PyData := .tuple [.int x.1, .int x.2.1, .int x.2.2]
theorem Lights.ext {K : PySem.W.Frag} {H H1 : Hp} {ps : List Addr} {xs : List Tri} (h : Lights K H ps xs) (e : Ex H H1) : Lights K H1 ps xs := ⟨h.1, fun i p x hp hx => e _ _ (h.2 i p x hp hx)⟩
theorem dp_all {K : PySem.W.Frag} {H : Hp} : ∀ {ps : List Addr} {xs : List Tri}, Lights K H ps xs → DpAll K H (ps.map V.ref) (xs.map triD)
  | [], [], _ => .nil
  | [], _ :: _, h => by cases h.1
  | _ :: _, [], h => by cases h.1
  | p :: ps, x :: xs, h => .cons (.tup (st_of (h.2 0 p x rfl rfl)) (.cons (.int _) (.cons (.int _) (.cons (.int _) .nil)))) (dp_all ⟨Nat.succ.inj h.1, fun i q y hq hy => h.2 (i + 1) q y hq hy⟩)
theorem lay_all : ∀ xs : List Tri, PyData.canLayAll0 (xs.map triD) = true
  | [] => rfl
  | x :: xs => by
    rw [List.map_cons, PyData.canLayAll0, lay_all xs]
    rfl
theorem depth_all : ∀ xs : List Tri, PyData.depthAll (xs.map triD) ≤ 1
  | [] => Nat.zero_le _
  | x :: xs => by
    rw [List.map_cons, PyData.depthAll]
    have h := depth_all xs
    have h2 : PyData.depth (triD x) = 1 := rfl
    rw [h2]
    omega
theorem shapedL (xs : List Tri) : SeqAt.shaped (.list (xs.map triD)) = true := by
  unfold SeqAt.shaped
  have h := depth_all xs
  have h2 : PyData.depth (.list (xs.map triD)) ≤ 64 := by
    rw [PyData.depth]
    omega
  rw [show PyData.canLay0 (.list (xs.map triD)) = true from lay_all xs, decide_eq_true h2] <;> rfl
theorem eqvL (xs : List Tri) : PyData.eqv (.list (xs.map triD)) (.list (xs.map triD)) = true := SeqAt.eqv_refl _ (lay_all xs)
section
variable {K : PySem.W.Frag} {σ : L2.St} {H : Hp}
theorem eu_summedL {i : Nat} {a : Addr} {ps : List Addr} {xs : List Tri} {E : XK} (hi : σ[i]? = some (some (.ref a))) (h : SqL K H a (ps.map V.ref)) (hL : Lights K H ps xs) : EvU (tCall (fun vs H Q E => spSummedL K vs H Q E ∨ spSummedT K vs H Q E) [] E (tCons (tVar i) tNil)) σ H (tri (sum3 xs)) := fun H1 e Q q =>
  ⟨_, hi, .inl ⟨a, ps, xs, rfl, ex_l e h, hL.ext e, fun p H2 hp e2 h2 => q p H2 hp e2 h2⟩⟩
theorem eu_summedT {i : Nat} {a : Addr} {ps : List Addr} {xs : List Tri} {E : XK} (hi : σ[i]? = some (some (.ref a))) (h : SqT K H a (ps.map V.ref)) (hL : Lights K H ps xs) : EvU (tCall (fun vs H Q E => spSummedL K vs H Q E ∨ spSummedT K vs H Q E) [] E (tCons (tVar i) tNil)) σ H (tri (sum3 xs)) := fun H1 e Q q =>
  ⟨_, hi, .inr ⟨a, ps, xs, rfl, ex_t e h, hL.ext e, fun p H2 hp e2 h2 => q p H2 hp e2 h2⟩⟩
theorem eu_sum {i : Nat} {a : Addr} {ps : List Addr} {xs : List Tri} {E : XK} (hi : σ[i]? = some (some (.ref a))) (h : SqL K H a (ps.map V.ref)) (hL : Lights K H ps xs) (hz : xs.length ≤ 1000) : EvU (tCall (spSum K) [] E (tCons (tVar i) tNil)) σ H (tri (sum3 xs)) := fun H1 e Q q =>
  ⟨_, hi, a, ps, xs, rfl, ex_l e h, hL.ext e, hz, fun p H2 hp e2 h2 => q p H2 hp e2 h2⟩
theorem el_listOf {i : Nat} {a : Addr} {xs : List V} (hi : σ[i]? = some (some (.ref a))) (h : SqL K H a xs ∨ SqT K H a xs) : EvL (tCB (rListS K) (tCons (tVar i) tNil)) σ H xs := fun H1 e Q q =>
  ⟨_, hi, a, xs, rfl, h.imp (ex_l e) (ex_t e), fun l hl => q l _ hl (Ex.new hl) upd_same⟩
/-- not same(summed(handed), sum(some)) or list(handed) != some -/
theorem et_last {a d : Addr} {ps : List Addr} {xs : List Tri} {E E' E2 : XK} (h11 : σ[11]? = some (some (.ref a))) (h10 : σ[10]? = some (some (.ref d))) (h : SqL K H a (ps.map V.ref) ∨ SqT K H a (ps.map V.ref)) (hd : SqL K H d (ps.map V.ref)) (hL : Lights K H ps xs) (hz : xs.length ≤ 1000) :
    EvT (tOr (tNot (tB (tCall (spSame K 3) [] E (tCons (tCall (fun vs H Q E => spSummedL K vs H Q E ∨ spSummedT K vs H Q E) [] E' (tCons (tVar 11) tNil)) (tCons (tCall (spSum K) [] E2 (tCons (tVar 10) tNil)) tNil))))) (tTest (tOp (rNeD K) (tCB (rListS K) (tCons (tVar 11) tNil)) (tVar 10)))) σ H false := by
  refine et_is (a := false || false) (et_or (et_sameT (d := 1) (xs := tri (sum3 xs)) ?_ (eu_sum h10 hd hL hz) rfl (by show 3 ≤ 1000; decide)) fun _ => et_neL (el_listOf h11 h) (ev_var h10) (fun p H' e hp => .lst (sq_of hp) (dp_all (hL.ext e))) (fun H' e => .lst (ex_l e hd) (dp_all (hL.ext e))) (shapedL xs) (eqvL xs)) rfl
  rcases h with h | h
  · exact eu_summedL h11 h hL
  · exact eu_summedT h11 h hL
end
end Hs
namespace Hs
open PySem PySem.Spec PyProof.Rows L2 Evl
def lamQ : Str := ("law" : Str) ++ ".<locals>." ++ "<lambda>"
def spLaw (K : PySem.W.Frag) (T : List (Addr × Str)) : Sp := fun vs H Q _ => ∃ (a : Addr) (ns : List Int), vs = [.ref a] ∧ SqL K H a (ns.map V.int) ∧ ns.length ≤ 63 ∧ LamX.Tabs T H ∧ ∀ H', Q (.bl true) H'
def spSummed (K : PySem.W.Frag) : Sp := fun vs H Q E => spSummedL K vs H Q E ∨ spSummedT K vs H Q E
section
variable {P : Program} {w : World} {K : PySem.W.Frag} {mg : Str → Option Value} {base : Heap} {C c pt S D : Addr} {cN cL cK cB cS cM cC : Addr}
abbrev sLaw : Stmt := top 28
theorem scLaw : FnScope ["_law_script", "_law_bag_here", "_law_sifts", "_law_step", "_law_light", "_law_one_here", "_law_two", "_law_due", "_law_odd", "_law_acts", "_law_some", "_law_handed", "_law_part", "_law_letter", "_law_k"] ["_law_script"] (defScope sLaw) := ⟨rfl, rfl, rfl, by decide +kernel, rfl, by decide +kernel, by decide +kernel⟩
theorem law_body {A : Around} {outer : List Env} {s : Shared} {H : Hp} {E : XK} {f : Addr} (hr : Room 7 (A.deeper (envOfC "law" (defScope sLaw) s.heap.objs.size f (.ref c))))
    (O__law_bag : Own P w K mg base 1 "_law_bag" ["_law_script"] (spBag K)) (O__law_pull : Own P w K mg base 1 "_law_pull" ["_law_bag_here", "_law_many"] spPull) (O__law_tint : Own P w K mg base 2 "_law_tint" ["_law_bag_here"] spTint) (O__law_letters : Own P w K mg base 2 "_law_letters" ["_law_bag_here"] spLetters) (O__law_one : Own P w K mg base 2 "_law_one" ["_law_bag_here", "_law_some"] (spOne K))
    (O__law_same : Own P w K mg base 3 "_law_same" ["_law_got", "_law_due"] (spSame K 3)) (O_sifted : OwnX P w K mg base 4 "sifted" ["light", "sift"] [] (spSifted K C)) (O_both_sifts : OwnX P w K mg base 4 "both_sifts" ["one", "other"] [] (spBoth C)) (O__law_sift : Own P w K mg base 1 "_law_sift" ["_law_tint_here", "_law_letters_here"] (spSift K)) (O_summed : Own P w K mg base 1 "summed" ["lights"] (spSummed K)) (O__law_sum : Own P w K mg base 1 "_law_sum" ["_law_some"] (spSum K))
    (O__law_all_tried : ∀ base', (∀ b o, base.get? b = some o → base'.get? b = some o) → Own P w K mg base' 7 "_law_all_tried" ["_law_acts"] (spAll P w K mg base' 5 lamQ cN cL cK cB cS cM cC))
    (OS : ∀ base', (∀ b o, base.get? b = some o → base'.get? b = some o) → OwnX P w K mg base' 4 "sifted" ["light", "sift"] [] (spSifted K C)) (OB : ∀ base', (∀ b o, base.get? b = some o → base'.get? b = some o) → OwnX P w K mg base' 4 "both_sifts" ["one", "other"] [] (spBoth C))
    (TB : LamX.TabB base mg c pt) (g_range : mg "range" = none) (g_tuple : mg "tuple" = none) (g_list : mg "list" = none) (g_SIFTS : mg "SIFTS" = some (.ref S) ∧ RelV (.ref S) (.ref S)) (hS : ∀ H, SqT K H S siftsV) (g_DARK : mg "DARK" = some (.ref D) ∧ RelV (.ref D) (.ref D)) (hD : ∀ H, SqT K H D (tri (0, 0, 0)))
    (g_BRIGHT : ∃ u, mg "BRIGHT" = some u ∧ RelV (.int 1000000) u) (wc : Word K C cN cL cK cB cS cM cC) {vs : List V} {Q : VK} (h : spLaw K [(pt, lamQ)] vs H Q E) :
    ∃ t, PSs (cxOf CX0 P w K mg base ["_law_script", "_law_bag_here", "_law_sifts", "_law_step", "_law_light", "_law_one_here", "_law_two", "_law_due", "_law_odd", "_law_acts", "_law_some", "_law_handed", "_law_part", "_law_letter", "_law_k"] "law" (defScope sLaw) f (.ref c) A outer s H E) (defBody sLaw) t ∧ t { nx := fun _ H' => Q .non H', rt := Q } (L2.start ["_law_script", "_law_bag_here", "_law_sifts", "_law_step", "_law_light", "_law_one_here", "_law_two", "_law_due", "_law_odd", "_law_acts", "_law_some", "_law_handed", "_law_part", "_law_letter", "_law_k"] vs) H := by
  have nd := scLaw.nd
  obtain ⟨uB, g_BRIGHT⟩ := g_BRIGHT
  refine ⟨_, PSs.nox (pss_cons (ps_set (i := 1) nd rfl (.inr rfl) (Hs.pe_own O__law_bag hr (by first | decide | omega) (by rfl) (pa_cons (pv 0) pa_nil)))
  (pss_cons (ps_set (i := 2) nd rfl (.inl rfl) (pe_tup (pa_cons pe_str (pa_cons pe_str (pa_cons pe_str (pa_cons pe_str (pa_cons pe_str (pa_cons pe_str (pa_cons pe_str (pa_cons pe_str pa_nil))))))))))
  (pss_cons (ps_if (PW.pt (pw_or (pt_cmpR (op_neD hr.units) (pe_glob (by rfl) g_SIFTS.1 g_SIFTS.2) (pv 2) (nomark _)) (pw_or (pt_cmpR (op_neD hr.units) (pe_glob (by rfl) g_DARK.1 g_DARK.2) (pe_tup (pa_cons pe_int (pa_cons pe_int (pa_cons pe_int pa_nil)))) (nomark _)) (pw_or1 (pt_cmpR op_ne (pe_glob (by rfl) g_BRIGHT.1 g_BRIGHT.2) (pe_op op_pow pe_int pe_int) (nomark _)))))) (pss_one (ps_ret pe_bl)) pss_nil)
  (pss_cons (ps_for PassesOwn.never rfl (pi_range1 (by rfl) g_range (pa_cons pe_int pa_nil)) (pg_name (i := 3) nd rfl (.inl rfl)) (pss_cons (ps_set (i := 4) nd rfl (.inr rfl) (Hs.pe_own O__law_tint hr (by first | decide | omega) (by rfl) (pa_cons (pv 1) pa_nil)))
  (Evl.pss_cut (ps_if (pt_cmpR op_eq (Hs.pe_own O__law_pull hr (by first | decide | omega) (by rfl) (pa_cons (pv 1) (pa_cons pe_int pa_nil))) pe_int (nomark _)) (pss_one (ps_set (i := 4) nd rfl (.inr rfl) (pe_callTy call_tuple_of (by rfl) g_tuple (by decide +kernel) (pa_cons (pe_lc (own := [("_law_part", 12)]) rfl nd (pi_tup (pv 4)) (blkOk_by (N := ["_law_script", "_law_bag_here", "_law_sifts", "_law_step", "_law_light", "_law_one_here", "_law_two", "_law_due", "_law_odd", "_law_acts", "_law_some", "_law_handed", "_law_part", "_law_letter", "_law_k"]) (sc := defScope (Hs.top 28)) (by decide +kernel)) (fun _ _ _ _ _ => (pg_name (i := 12) nd rfl (Or.inl rfl))) (fun _ _ _ _ _ => pts_nil) (fun _ _ _ _ _ => (pe_op op_mulW (pv 12) pe_int))) pa_nil)))) pss_nil)
  (pss_cons (ps_asg (pe_tup (pa_cons (Hs.pe_own O__law_letters hr (by first | decide | omega) (by rfl) (pa_cons (pv 1) pa_nil)) (pa_cons (Hs.pe_own O__law_letters hr (by first | decide | omega) (by rfl) (pa_cons (pv 1) pa_nil)) pa_nil))) (pg_tup rfl (pgs_cons (pg_name (i := 5) nd rfl (.inr rfl)) (pgs_cons (pg_name (i := 6) nd rfl (.inr rfl)) pgs_nil))))
  (pss_cons (ps_if (pt_not (pt_val (Hs.pe_own O__law_same hr (by first | decide | omega) (by rfl) (pa_cons (Hs.pe_ownX O_sifted hr (by first | decide | omega) (by rfl) (pa_cons (pv 4) (pa_cons (pv 5) pa_nil))) (pa_cons (Hs.pe_own O__law_sift hr (by first | decide | omega) (by rfl) (pa_cons (pv 4) (pa_cons (pv 5) pa_nil))) pa_nil))))) (pss_one (ps_ret pe_bl)) pss_nil)
  (pss_cons (ps_set (i := 7) nd rfl (.inl rfl) (pe_join pe_str (pe_lc (own := [("_law_letter", 13)]) rfl nd (pi_str pe_str) (blkOk_by (N := ["_law_script", "_law_bag_here", "_law_sifts", "_law_step", "_law_light", "_law_one_here", "_law_two", "_law_due", "_law_odd", "_law_acts", "_law_some", "_law_handed", "_law_part", "_law_letter", "_law_k"]) (sc := defScope (Hs.top 28)) (by decide +kernel)) (fun _ _ _ _ _ => (pg_name (i := 13) nd rfl (Or.inl rfl))) (fun _ _ _ _ _ => (pts_one (PW.pt (pw_and (pt_cmpR (Hs.op_has) (pv 13) (pv 5) (by rfl)) (pw_and1 (pt_cmpR (Hs.op_has) (pv 13) (pv 6) (by rfl))))))) (fun _ _ _ _ _ => (pv 13)))))
  (pss_cons (ps_if (pt_not (pt_val (Hs.pe_own O__law_same hr (by first | decide | omega) (by rfl) (pa_cons (pe_lst (pa_cons (Hs.pe_ownX O_both_sifts hr (by first | decide | omega) (by rfl) (pa_cons (pv 5) (pa_cons (pv 6) pa_nil))) (pa_cons (Hs.pe_ownX O_sifted hr (by first | decide | omega) (by rfl) (pa_cons (Hs.pe_ownX O_sifted hr (by first | decide | omega) (by rfl) (pa_cons (pv 4) (pa_cons (pv 5) pa_nil))) (pa_cons (pv 6) pa_nil))) pa_nil))) (pa_cons (pe_lst (pa_cons (pv 7) (pa_cons (Hs.pe_own O__law_sift hr (by first | decide | omega) (by rfl) (pa_cons (pv 4) (pa_cons (pv 7) pa_nil))) pa_nil))) pa_nil))))) (pss_one (ps_ret pe_bl)) pss_nil)
  (pss_cons (ps_set (i := 8) nd rfl (.inr rfl) (Hs.pe_own O__law_one hr (by first | decide | omega) (by rfl) (pa_cons (pv 1) (pa_cons (pe_lst (pa_cons pe_str (pa_cons pe_str (pa_cons pe_str (pa_cons pe_str pa_nil))))) pa_nil))))
  (pss_cons (ps_set (i := 9) nd rfl (.inl rfl) (pe_lst (pa_cons (Hs.pe_lam (T := [(pt, lamQ)]) TB rfl (List.mem_singleton.mpr rfl) (fun p hp _ => by rw [List.mem_singleton.mp hp] <;> rfl) rfl (LamX.lamS_by (sc := defScope sLaw) (by decide +kernel)).free) pa_nil)))
  (pss_cons (ps_expr (pe_bm PySem.F.plainAttrs_list PySem.F.slot_list_append PySem.F.type_list_append mt_append (pv 9) (pa_cons (Hs.pe_lam (T := [(pt, lamQ)]) TB rfl (List.mem_singleton.mpr rfl) (fun p hp _ => by rw [List.mem_singleton.mp hp] <;> rfl) rfl (LamX.lamS_by (sc := defScope sLaw) (by decide +kernel)).free) pa_nil)))
  (pss_cons (ps_expr (pe_bm PySem.F.plainAttrs_list PySem.F.slot_list_append PySem.F.type_list_append mt_append (pv 9) (pa_cons (Hs.pe_lam (T := [(pt, lamQ)]) TB rfl (List.mem_singleton.mpr rfl) (fun p hp _ => by rw [List.mem_singleton.mp hp] <;> rfl) rfl (LamX.lamS_by (sc := defScope sLaw) (by decide +kernel)).free) pa_nil)))
  (pss_cons (ps_if (pt_cmpR (op_neD hr.units) (Hs.pe_ownB (sp := fun base => spAll P w K mg base 5 lamQ cN cL cK cB cS cM cC) O__law_all_tried (fun _ => rfl) hr (by decide) (by rfl) (pa_cons (pv 9) pa_nil)) (pe_op op_rep (pe_lst (pa_cons (pe_tup (pa_cons pe_str pa_nil)) pa_nil)) pe_int) (nomark _)) (pss_one (ps_ret pe_bl)) pss_nil)
  (pss_cons (ps_setLc (i := 10) (own := [("_law_k", 14)]) rfl nd rfl rfl (sw_true rfl rfl rfl (by decide +kernel)) (pi_range1 (by rfl) g_range (pa_cons (Hs.pe_own O__law_pull hr (by first | decide | omega) (by rfl) (pa_cons (pv 1) (pa_cons pe_int pa_nil))) pa_nil)) (blkOk_by (N := ["_law_script", "_law_bag_here", "_law_sifts", "_law_step", "_law_light", "_law_one_here", "_law_two", "_law_due", "_law_odd", "_law_acts", "_law_some", "_law_handed", "_law_part", "_law_letter", "_law_k"]) (sc := defScope (Hs.top 28)) (by decide +kernel)) (fun _ _ _ _ _ => (pg_name (i := 14) nd rfl (Or.inl rfl))) (fun _ _ _ _ _ => pts_nil) (fun _ _ _ _ _ => (Hs.pe_own O__law_tint hr (by first | decide | omega) (by rfl) (pa_cons (pv 1) pa_nil))))
  (pss_cons (ps_set (i := 11) nd rfl (.inl rfl) (pe_ix (r := rIxL K) ix_list (pe_lst (pa_cons (pe_callTy (r := Evl.rListS K) call_list_of (by rfl) g_list (by decide +kernel) (pa_cons (pv 10) pa_nil)) (pa_cons (pe_callTy call_tuple_of (by rfl) g_tuple (by decide +kernel) (pa_cons (pv 10) pa_nil)) pa_nil))) (Hs.pe_own O__law_pull hr (by first | decide | omega) (by rfl) (pa_cons (pv 1) (pa_cons pe_int pa_nil))) (fun _ _ => rfl)))
  (pss_one (ps_if (PW.pt (pw_or (pt_not (pt_val (Hs.pe_own O__law_same hr (by first | decide | omega) (by rfl) (pa_cons (Hs.pe_own O_summed hr (by first | decide | omega) (by rfl) (pa_cons (pv 11) pa_nil)) (pa_cons (Hs.pe_own O__law_sum hr (by first | decide | omega) (by rfl) (pa_cons (pv 10) pa_nil)) pa_nil))))) (pw_or1 (pt_cmpR (op_neD hr.units) (pe_callTy (r := Evl.rListS K) call_list_of (by rfl) g_list (by decide +kernel) (pa_cons (pv 11) pa_nil)) (pv 10) (nomark _))))) (pss_one (ps_ret pe_bl)) pss_nil))))))))))))))))
  (pss_one (ps_ret (Hs.pe_own O__law_same hr (by first | decide | omega) (by rfl) (pa_cons (Hs.pe_own O_summed hr (by first | decide | omega) (by rfl) (pa_cons (pe_lst pa_nil) pa_nil)) (pa_cons (pe_tup (pa_cons pe_int (pa_cons pe_int (pa_cons pe_int pa_nil)))) pa_nil))))))))), ?_⟩
  obtain ⟨a, ns, rfl, hS0, hl, hT, k⟩ := h
  refine ⟨_, rfl, a, ns, rfl, hS0, hl, fun b l H1 nb nl B1 e1 => ?_⟩
  have hT1 := hT.ext e1
  refine ⟨sz_of (by simp), fun sf hsf => ?_⟩
  have dS : ∀ {H' : Hp} {p : Addr}, SqT K H' p siftsV → Dp K H' (.ref p) (.tuple [.str "", .str "r", .str "g", .str "b", .str "rg", .str "rb", .str "gb", .str "rgb"]) := fun h => .tup h (.cons (.str _) (.cons (.str _) (.cons (.str _) (.cons (.str _) (.cons (.str _) (.cons (.str _) (.cons (.str _) (.cons (.str _) .nil))))))))
  have dD : ∀ {H' : Hp} {p : Addr}, SqT K H' p (tri (0, 0, 0)) → Dp K H' (.ref p) (.tuple [.int 0, .int 0, .int 0]) := fun h => .tup h (.cons (.int _) (.cons (.int _) (.cons (.int _) .nil)))
  have T2 := hT1.ext (Ex.new (o := .tup siftsV) hsf)
  have B2 := B1.ext (m := 0) (Ex.new (o := .tup siftsV) hsf) (Nat.le_refl _)
  show tSeq _ _ _ [some (.ref a), some (.ref b), some (.ref sf), none, none, none, none, none, none, none, none, none, none, none, none] (upd H1 sf (.tup siftsV))
  refine q_when (b := false || (false || false)) (et_or (et_neV (ev_c) (ev_var rfl) (fun H' _ => dS (hS H')) (fun H' e => dS (ex_t e (st_of upd_same))) (by decide +kernel) (by decide +kernel)) fun _ => et_or (et_neU ev_c (eu_tup (ea_cons ev_c (ea_cons ev_c (ea_cons ev_c ea_nil))) (by simp)) (fun H' _ => dD (hD H')) (fun p H' _ h => dD (st_of h)) (by decide +kernel) (by decide +kernel)) fun _ => et_is (et_test (ev_op ev_c (ev_op ev_c ev_c (rv_I ⟨by decide, by decide, by decide⟩)) (rv_ne rfl))) (by decide)) (fun ht => Bool.noConfusion ht) (fun _ H3 e3 => ?_)
  refine q_forR1 (n := 8) (ea_cons ev_c ea_nil) (by decide) (fun i σ' H' => (∃ v3 v4 v5 v6 v7 v8 v9 v10 v11 v12 v13 v14 : Option V, σ' = [some (.ref a), some (.ref b), some (.ref sf), v3, v4, v5, v6, v7, v8, v9, v10, v11, v12, v13, v14]) ∧ BagAt H' b l ns (50 * i) ∧ LamX.Tabs [(pt, lamQ)] H') ?_ ?_ ?_
  · intro H4 e4
    exact ⟨⟨none, none, none, none, none, none, none, none, none, none, none, none, rfl⟩, B2.ext (e3.trans e4) (by omega), T2.ext (e3.trans e4)⟩
  · rintro t σ' H4 ht ⟨⟨v3, v4, v5, v6, v7, v8, v9, v10, v11, v12, v13, v14, rfl⟩, B4, T4⟩
    obtain ⟨xb, hb4⟩ := bag_lst B4
    refine ⟨_, rfl, b, l, ns, _, rfl, B4, by omega, fun lp x H5 hx nlp hlp B5 b5 => ?_⟩
    have T5 := tabs_but T4 hb4 b5
    refine q_cut (M := fun σ' H' => ∃ (lp : Addr) (x : Tri), σ' = [some (.ref a), some (.ref b), some (.ref sf), some (.int (t : Int)), some (.ref lp), v5, v6, v7, v8, v9, v10, v11, v12, v13, v14] ∧ H' lp = some (.tup (tri x)) ∧ BagAt H' b l ns (50 * t + 7) ∧ LamX.Tabs [(pt, lamQ)] H') ?_ ?_
    · obtain ⟨xb5, hb5⟩ := bag_lst B5
      refine ⟨_, rfl, b, l, ns, _, 4, rfl, B5, by omega, by decide, by decide, fun v H6 v0 v1 B6 b6 => ⟨rfl, _, rfl, ?_⟩⟩
      have T6 := tabs_but T5 hb5 b6
      have hlp6 := b6 _ _ hlp (ne_of hlp hb5 (by intro z; cases z))
      by_cases hv : v = 0
      · refine ite_T (decide_eq_true (by rw [hv])) ?_
        refine eu_tuple (K := K) (xs := tri (x.1 * 12, x.2.1 * 12, x.2.2 * 12)) (el_lcT (xs := tri x) (fun _ => true) (fun i => .int ([x.1 * 12, x.2.1 * 12, x.2.2 * 12].getD i 0)) (ev_var rfl) (st_of hlp6) (by show 3 ≤ 40000; decide) (fun _ => rfl) (fun i y H7 _ _ => et_yes) (fun i y H7 e7 hy _ => ?_)) H6 (Ex.refl H6) _ fun p H7 hp e7 h7 => ⟨p, _, rfl, h7, B6.ext e7 (by omega), T6.ext e7⟩
        obtain ⟨⟨x0, x1⟩, ⟨y0, y1⟩, z0, z1⟩ := hx
        match i, hy with
        | 0, hy => cases hy; exact ev_op (ev_var rfl) ev_c (rv_I (mul64 (by omega) (by decide)))
        | 1, hy => cases hy; exact ev_op (ev_var rfl) ev_c (rv_I (mul64 (by omega) (by decide)))
        | 2, hy => cases hy; exact ev_op (ev_var rfl) ev_c (rv_I (mul64 (by omega) (by decide)))
        | i + 3, hy => cases hy
      · refine ite_F (decide_eq_false (fun z => hv (by injection z))) ?_
        exact ⟨lp, x, rfl, hlp6, B6.ext (Ex.refl _) (by omega), T6⟩
    · rintro σ' H7 ⟨lp, x, rfl, hlp7, B7, T7⟩
      obtain ⟨xb7, hb7⟩ := bag_lst B7
      refine ⟨_, rfl, b, l, ns, _, rfl, B7, by omega, fun z1 H8 hz1 B8 b8 => ⟨_, rfl, b, l, ns, _, rfl, B8, by omega, fun z2 H9 hz2 B9 b9 => ⟨sz_of (by simp), fun tp htp => ⟨tp, [.str z1, .str z2], rfl, st_of upd_same, rfl, _, _, rfl, _, _, rfl, rfl, ?_⟩⟩⟩⟩
      have b79 := b8.trans b9
      have e10 := Ex.new (o := .tup [.str z1, .str z2]) htp
      have hlp9 := e10 _ _ (b79 _ _ hlp7 (ne_of hlp7 hb7 (by intro z; cases z)))
      have T9 := (tabs_but T7 hb7 b79).ext e10
      have B10 := B9.ext (m := 50 * t + 9) e10 (by omega)
      obtain ⟨g1, s1⟩ := good8 z1 hz1
      obtain ⟨g2, s2⟩ := good8 z2 hz2
      generalize hH : upd H9 tp (.tup [.str z1, .str z2]) = H10 at hlp9 T9 B10 ⊢
      show tSeq _ _ _ [some (.ref a), some (.ref b), some (.ref sf), some (.int (t : Int)), some (.ref lp), some (.str z1), some (.str z2), v7, v8, v9, v10, v11, v12, v13, v14] H10
      have lt := st_of (K := K) hlp9
      refine q_when (et_sameT (d := 1) (xs := tri (siftT x z1)) (eu_sifted (ev_var rfl) (ev_var rfl) lt g1) (eu_sift (ev_var rfl) (ev_var rfl) lt) rfl (by show 3 ≤ 1000; decide)) (fun ht => Bool.noConfusion ht) (fun _ H11 e11 => ?_)
      refine q_asg (v := .str (dueS z1 z2)) (ev_due (K := K) (fun _ => rfl) (fun _ => rfl) (fun _ => rfl) (fun _ => rfl)) fun H12 e12 => ?_
      have e1012 := e11.trans e12
      refine q_when (et_same2 (K := K) (u := .str (dueS z1 z2)) (xs := tri (siftT x (dueS z1 z2))) (ev_is (ev_both (ev_var rfl) (ev_var rfl) s1 (by rw [g1, g2] <;> rfl)) (by rw [both8 z1 hz1 z2 hz2])) (by rw [← sift8 hz1 hz2]; exact eu_sifted2 (eu_sifted (ev_var rfl) (ev_var rfl) (ex_t e1012 lt) g1) (ev_var rfl) g2) (ev_var rfl) (eu_sift (ev_var rfl) (ev_var rfl) (ex_t e1012 lt)) rfl rfl (by show 3 ≤ 1000; decide)) (fun ht => Bool.noConfusion ht) (fun _ H13 e13 => ?_)
      have e1013 := e1012.trans e13
      have B13 := B10.ext (m := 50 * t + 9) e1013 (Nat.le_refl _)
      have T13 := T9.ext e1013
      have hlp13 := e1013 _ _ hlp9
      obtain ⟨xb13, hb13⟩ := bag_lst B13
      refine ⟨_, rfl, sz_of (by simp), fun ol hol => ⟨b, l, ol, ns, _, [.str "x", .str "gr", .str "rr", .str "rgbr"], rfl, B13.ext (Ex.new hol) (Nat.le_refl _), by omega, upd_same, bag_ne B13 hol, by decide, by decide, fun v H14 hv B14 b14 => ?_⟩⟩
      obtain ⟨zo, rfl, go, so⟩ : ∃ zo, v = .str zo ∧ good zo = false ∧ zo.cps.size ≤ 40 := by
        simp only [List.mem_cons, List.not_mem_nil, or_false] at hv
        rcases hv with rfl | rfl | rfl | rfl
        · exact ⟨_, rfl, by decide +kernel, by decide⟩
        · exact ⟨_, rfl, by decide +kernel, by decide⟩
        · exact ⟨_, rfl, by decide +kernel, by decide⟩
        · exact ⟨_, rfl, by decide +kernel, by decide⟩
      have b1314 : But H13 H14 b := (But.of (Ex.new hol)).trans b14
      have T14 := tabs_but T13 hb13 b1314
      have hlp14 := b1314 _ _ hlp13 (ne_of hlp13 hb13 (by intro z; cases z))
      -- three functions, kept in a list
      refine ⟨T14, fun f1 c1 H15 eN15 _ T15 _ hf1 hc1 => ⟨sz_of (by simp), fun al hal => ?_⟩⟩
      have eA := Ex.new (o := .lst [.ref f1]) hal
      have B15 := (bag_extN B14 eN15).ext (m := 50 * t + 10) eA (by omega)
      have T15' := T15.ext eA
      have hlp15 := eA _ _ (eN15 _ _ hlp14 (fun _ z => by cases z))
      have hf15 := eA _ _ hf1
      have hc15 := eA _ _ hc1
      refine ⟨_, rfl, .inl ⟨rfl, _, sq_of upd_same⟩, T15', fun f2 c2 H16 eN16 _ T16 _ hf2 hc2 => ⟨al, _, _, rfl, rfl, eN16 _ _ upd_same (fun _ z => by cases z), sz_of (by simp), ?_⟩⟩
      have hal16 := eN16 al _ upd_same (fun _ z => by cases z)
      have up16 : ∀ q u, H16 q = some u → (∀ ys, u ≠ .lst ys) → upd H16 al (.lst ([.ref f1] ++ [.ref f2])) q = some u := fun q u h n => by
        rw [upd_ne (ne_of h hal16 (n _))]
        exact h
      have lamL : ∀ {f : Addr} {F : LF} (ys : List V), LamO f F ≠ .lst ys := fun ys z => by
        unfold LamO at z
        cases z
      have codL : ∀ {c : Addr} {q : Str} (ys : List V), LamX.CodeO c q ≠ .lst ys := fun ys z => by
        unfold LamX.CodeO at z
        cases z
      have B17 := bag_upd (o := .lst ([.ref f1] ++ [.ref f2])) (bag_extN B15 eN16) (ne_of_none (eN15 _ _ (bag_lst B14).choose_spec (fun _ z => by cases z)) hal) (ne_of_none (eN15 _ _ B14.ls (fun _ z => by cases z)) hal)
      have T17 := tabs_upd (o := .lst ([.ref f1] ++ [.ref f2])) T16 hal16
      have hlp17 := up16 _ _ (eN16 _ _ hlp15 (fun _ z => by cases z)) (fun _ z => by cases z)
      have hf17 := up16 _ _ (eN16 _ _ hf15 lamO_ne) lamL
      have hc17 := up16 _ _ (eN16 _ _ hc15 LamX.codeO_ne) codL
      have hg17 := up16 _ _ hf2 lamL
      have hd17 := up16 _ _ hc2 codL
      refine ⟨_, rfl, .inl ⟨rfl, _, sq_of upd_same⟩, T17, fun f3 c3 H18 eN18 _ T18 _ hf3 hc3 => ⟨al, _, _, rfl, rfl, eN18 _ _ upd_same (fun _ z => by cases z), sz_of (by simp), ?_⟩⟩
      have hal18 := eN18 al _ upd_same (fun _ z => by cases z)
      have up18 : ∀ q u, H18 q = some u → (∀ ys, u ≠ .lst ys) → upd H18 al (.lst (([.ref f1] ++ [.ref f2]) ++ [.ref f3])) q = some u := fun q u h n => by
        rw [upd_ne (ne_of h hal18 (n _))]
        exact h
      have B19 := bag_upd (o := .lst (([.ref f1] ++ [.ref f2]) ++ [.ref f3])) (bag_extN B17 eN18) (ne_of_none (eN15 _ _ (bag_lst B14).choose_spec (fun _ z => by cases z)) hal) (ne_of_none (eN15 _ _ B14.ls (fun _ z => by cases z)) hal)
      have T19 := tabs_upd (o := .lst (([.ref f1] ++ [.ref f2]) ++ [.ref f3])) T18 hal18
      have hlp19 := up18 _ _ (eN18 _ _ hlp17 (fun _ z => by cases z)) (fun _ z => by cases z)
      have hf19 := up18 _ _ (eN18 _ _ hf17 lamO_ne) lamL
      have hc19 := up18 _ _ (eN18 _ _ hc17 LamX.codeO_ne) codL
      have hg19 := up18 _ _ (eN18 _ _ hg17 lamO_ne) lamL
      have hd19 := up18 _ _ (eN18 _ _ hd17 LamX.codeO_ne) codL
      have hh19 := up18 _ _ hf3 lamL
      have hi19 := up18 _ _ hc3 codL
      have hal19 : upd H18 al (.lst (([.ref f1] ++ [.ref f2]) ++ [.ref f3])) al = some (.lst ([f1, f2, f3].map V.ref)) := upd_same
      generalize hH19 : upd H18 al (.lst (([.ref f1] ++ [.ref f2]) ++ [.ref f3])) = H19 at B19 T19 hlp19 hf19 hc19 hg19 hd19 hh19 hi19 hal19 ⊢
      dsimp only
      refine q_when (b := false) ?tst (fun ht => Bool.noConfusion ht) (fun _ H20 e20 => ?_)
      case tst =>
        intro H' e Q' q
        have lt' := ex_t e (st_of (K := K) hlp19)
        refine ⟨_, rfl, fun base' up clo => ⟨al, [f1, f2, f3], [[.str "badsift"], [.str "badsift"], [.str "badsift"]], rfl, sq_of (e _ _ hal19), rfl, by show 3 ≤ 1000; decide, fun i g xs hg hx => ?_, fun p ps H2 hp e2 hps hl3 tups => ?_⟩⟩
        · match i, hg, hx with
          | 0, hg, hx =>
            cases hg; cases hx
            exact tells_fly (lok_call2 (g := "sifted") (x1 := "_law_light") (x2 := "_law_odd") rfl rfl (NdefX.nscope_by (by rfl)) rfl (OS base' up)) (clo _ ["_law_light", "_law_odd"] [4, 8] fun ok => NdefX.Caps.made ok (LamX.lamS_by (sc := defScope sLaw) (by decide +kernel)).free (by decide +kernel) rfl) rfl (e _ _ hf19) (e _ _ hc19) wc fun H3 Q3 E3 e3 fl => ⟨rfl, .ref lp, .str zo, rfl, lp, x, zo, rfl, ex_t e3 lt', fun _ => fl, fun h => absurd h (by rw [go]; decide)⟩
          | 1, hg, hx =>
            cases hg; cases hx
            exact tells_fly (lok_call2 (g := "both_sifts") (x1 := "_law_odd") (x2 := "_law_one_here") rfl rfl (NdefX.nscope_by (by rfl)) rfl (OB base' up)) (clo _ ["_law_odd", "_law_one_here"] [8, 5] fun ok => NdefX.Caps.made ok (LamX.lamS_by (sc := defScope sLaw) (by decide +kernel)).free (by decide +kernel) rfl) rfl (e _ _ hg19) (e _ _ hd19) wc fun H3 Q3 E3 e3 fl => ⟨rfl, .str zo, .str z1, rfl, zo, z1, rfl, so, fun _ => fl, fun h => absurd h (by rw [go, Bool.false_and]; decide)⟩
          | 2, hg, hx =>
            cases hg; cases hx
            exact tells_fly (lok_call2 (g := "both_sifts") (x1 := "_law_one_here") (x2 := "_law_odd") rfl rfl (NdefX.nscope_by (by rfl)) rfl (OB base' up)) (clo _ ["_law_one_here", "_law_odd"] [5, 8] fun ok => NdefX.Caps.made ok (LamX.lamS_by (sc := defScope sLaw) (by decide +kernel)).free (by decide +kernel) rfl) rfl (e _ _ hh19) (e _ _ hi19) wc fun H3 Q3 E3 e3 fl => ⟨rfl, .str z1, .str zo, rfl, z1, zo, rfl, s1, fun _ => fl, fun h => absurd h (by rw [go, Bool.and_false]; decide)⟩
          | i + 3, hg, hx => cases hg
        · obtain ⟨r1, r2, r3, rfl⟩ : ∃ r1 r2 r3, ps = [r1, r2, r3] := match ps, hl3 with
            | [r1, r2, r3], _ => ⟨r1, r2, r3, rfl⟩
          refine ⟨sz_of (by simp), fun tp2 htp2 => ⟨sz_of (by simp), fun l2 hl2 => ⟨l2, 3, [.ref tp2], rfl, rfl, upd_same, by decide, by decide, sz_of (by simp), fun rp hrp => ?_⟩⟩⟩
          have x1 := Ex.new (o := .tup [V.str "badsift"]) htp2
          have x2 := x1.trans (Ex.new (o := .lst [V.ref tp2]) hl2)
          have x3 := x2.trans (Ex.new (o := .lst [V.ref tp2, .ref tp2, .ref tp2]) hrp)
          have dB : ∀ {H' : Hp} {p : Addr}, H' p = some (.tup [.str "badsift"]) → Dp K H' (.ref p) (.tuple [.str "badsift"]) := fun h => .tup (st_of h) (.cons (.str _) .nil)
          have k1 := dB (x3 _ _ (tups 0 r1 _ rfl rfl))
          have k2 := dB (x3 _ _ (tups 1 r2 _ rfl rfl))
          have k3 := dB (x3 _ _ (tups 2 r3 _ rfl rfl))
          have k4 := dB (((Ex.new (o := .lst [V.ref tp2]) hl2).trans (Ex.new (o := .lst [V.ref tp2, .ref tp2, .ref tp2]) hrp)) _ _ (upd_same (H := H2) (a := tp2) (o := .tup [V.str "badsift"])))
          exact ⟨.list [.tuple [.str "badsift"], .tuple [.str "badsift"], .tuple [.str "badsift"]], .list [.tuple [.str "badsift"], .tuple [.str "badsift"], .tuple [.str "badsift"]], .lst (sq_of (x3 _ _ hps)) (.cons k1 (.cons k2 (.cons k3 .nil))), .lst (sq_of upd_same) (.cons k4 (.cons k4 (.cons k4 .nil))), by decide +kernel, by decide +kernel, false, by decide +kernel, q _ (e2.trans x3)⟩
      have B20 := B19.ext (m := 50 * t + 10) e20 (by omega)
      have T20 := T19.ext e20
      obtain ⟨xb20, hb20⟩ := bag_lst B20
      refine ⟨_, rfl, b, l, ns, _, 6, rfl, B20, by omega, by decide, by decide, fun v H21 v0 v1 B21 b21 => ⟨v, rfl, by omega, by omega, fun Dl hD => ?_⟩⟩
      have T21 := tabs_but T20 hb20 b21
      have nDb := bag_ne B21 hD
      have nDl : Dl ≠ l := Ne.symm (ne_of_none B21.ls hD)
      refine lc_range (lo := 0) (n := v.toNat) (fun i H' => BagAt H' b l ns (50 * t + 11 + 6 * i) ∧ LamX.Tabs [(pt, lamQ)] H' ∧ ∃ (ps : List Addr) (xs : List Tri), H' Dl = some (.lst (ps.map V.ref)) ∧ ps.length = i ∧ Lights K H' ps xs) ⟨B21.ext (Ex.new hD) (by omega), T21.ext (Ex.new hD), [], [], upd_same, rfl, rfl, fun i p x h => by cases h⟩ (fun i H' hi p => ⟨rfl, ?_⟩) (fun H' p => ?_)
      · obtain ⟨Bi, Ti, ps, xs, hDl, hlen, hLl, hL⟩ := p
        obtain ⟨xbi, hbi⟩ := bag_lst Bi
        refine ⟨_, rfl, b, l, ns, _, rfl, Bi, by omega, fun p y H2 hy np hp B2 b2 => ?_⟩
        have hDl2 := b2 _ _ hDl nDb
        refine ⟨_, hDl2, sz_lt (by rw [List.length_map]; omega), bag_upd (B2.ext (Ex.refl _) (by omega)) (Ne.symm nDb) (Ne.symm nDl), tabs_upd (tabs_but Ti hbi b2) hDl2, ps ++ [p], xs ++ [y], by rw [upd_same, List.map_append] <;> rfl, by rw [List.length_append, hlen] <;> rfl, by rw [List.length_append, List.length_append, hLl] <;> rfl, fun j r z hr hz => ?_⟩
        have keep : ∀ r z, H2 r = some (.tup z) → upd H2 Dl (.lst (ps.map V.ref ++ [.ref p])) r = some (.tup z) := fun r z h => by
          rw [upd_ne (ne_of h hDl2 (by intro z; cases z))]
          exact h
        by_cases hj : j < ps.length
        · rw [List.getElem?_append_left hj] at hr
          rw [List.getElem?_append_left (by omega)] at hz
          have h1 := hL j r z hr hz
          exact keep _ _ (b2 _ _ h1 (ne_of h1 hbi (by intro z; cases z)))
        · rw [List.getElem?_append_right (by omega)] at hr
          rw [List.getElem?_append_right (by omega)] at hz
          have e0 : j - ps.length = 0 := by
            have : j - ps.length < 1 := (List.getElem?_eq_some_iff.mp hr).1
            omega
          have e1 : j - xs.length = 0 := by omega
          rw [e0] at hr
          rw [e1] at hz
          cases hr
          cases hz
          exact keep _ _ hp
      · obtain ⟨Bi, Ti, ps, xs, hDl, hlen, hLi⟩ := p
        have hz : xs.length ≤ 1000 := by
          have := hLi.1
          omega
        refine ⟨_, rfl, Dl, _, rfl, .inl (sq_of hDl), fun l1 hl1 => ⟨_, rfl, Dl, _, rfl, .inl ⟨sq_of ((Ex.new hl1) _ _ hDl), fun l2 hl2 => ⟨sz_of (by simp), fun l3 hl3 => ⟨_, rfl, b, l, ns, 50 * t + 11 + 6 * v.toNat, 2, rfl, Bi.ext (((Ex.new hl1).trans (Ex.new hl2)).trans (Ex.new hl3)) (Nat.le_refl _), by omega, by decide, by decide, fun u H22 u0 u1 B22 b22 => ?_⟩⟩⟩⟩⟩
        have y3 := Ex.new (o := .lst [V.ref l1, .ref l2]) hl3
        have y2 := (Ex.new (o := .tup (ps.map V.ref)) hl2).trans y3
        have y1 := (Ex.new (o := .lst (ps.map V.ref)) hl1).trans y2
        obtain ⟨xbi, hbi⟩ := bag_lst Bi
        have hb3 := y1 _ _ hbi
        have h3 := b22 _ _ (upd_same (H := _) (a := l3) (o := .lst [V.ref l1, .ref l2])) (fun z => by rw [z] at hl3; rw [((Ex.new (o := .lst (ps.map V.ref)) hl1).trans (Ex.new (o := .tup (ps.map V.ref)) hl2)) _ _ hbi] at hl3; cases hl3)
        have h2 := b22 _ _ (y3 _ _ (upd_same (H := _) (a := l2) (o := .tup (ps.map V.ref)))) (fun z => by rw [z] at hl2; rw [(Ex.new (o := .lst (ps.map V.ref)) hl1) _ _ hbi] at hl2; cases hl2)
        have h1 := b22 _ _ (y2 _ _ (upd_same (H := _) (a := l1) (o := .lst (ps.map V.ref)))) (fun z => by rw [z, hbi] at hl1; cases hl1)
        have hDl' := b22 _ _ (y1 _ _ hDl) nDb
        have hL' : Lights K H22 ps xs := ⟨hLi.1, fun i p x hp hx => b22 _ _ (y1 _ _ (hLi.2 i p x hp hx)) (ne_of (hLi.2 i p x hp hx) hbi (by intro z; cases z))⟩
        have T22 := tabs_but (Ti.ext y1) hb3 b22
        obtain ⟨w9, hat, hw9⟩ : ∃ w9, atI [V.ref l1, .ref l2] u = some (.ref w9) ∧ (SqL K H22 w9 (ps.map V.ref) ∨ SqT K H22 w9 (ps.map V.ref)) := by
          obtain rfl | rfl : u = 0 ∨ u = 1 := by omega
          · exact ⟨l1, rfl, .inl (sq_of h1)⟩
          · exact ⟨l2, rfl, .inr (st_of h2)⟩
        refine ⟨l3, _, u, _, rfl, rfl, sq_of h3, hat, ?_⟩
        dsimp only [gName]
        refine s_when (b := false) ?tst2 (fun ht => Bool.noConfusion ht) (fun _ H23 e23 => ?_)
        case tst2 => exact et_last (K := K) rfl rfl hw9 (sq_of hDl') hL' hz
        exact ⟨⟨_, _, _, _, _, _, _, _, _, _, _, _, rfl⟩, B22.ext e23 (by omega), T22.ext e23⟩
  · rintro σ' H2 ⟨⟨v3, v4, v5, v6, v7, v8, v9, v10, v11, v12, v13, v14, rfl⟩, B2, T2⟩
    refine ⟨sz_of (by simp), fun el hel => .inl ⟨el, [], [], rfl, sq_of upd_same, ⟨rfl, fun i p x h => by cases h⟩, fun p H5 hp e5 h5 => ⟨sz_of (by simp), fun r hr5 => ⟨_, _, rfl, sm_tupF (st_of ((Ex.new hr5) _ _ h5)) (st_of upd_same) rfl (by show 3 ≤ 1000; decide), fun H6 e6 => k H6⟩⟩⟩⟩
end
end Hs
namespace Hs
open PySem PySem.Spec PyProof.Rows L2 Evl
/-! ### the head: what the run of the top leaves -/
def oclsB (K : PySem.W.Frag) (C : Addr) : Bool := match K.lookup C with
  | some ⟨.type "type", _, .cls cd, sl⟩ => (match cd.mro, sl.toList with
    | .ref C' :: bm, [_, _, _, _, some (.builtin n), _] => C' == C && n == "ValueError.__new__" && !cd.hasDel && cd.hasDict && PySem.HandSPX.refsVE bm
    | _, _ => false)
  | _ => false
theorem ocls_of {K : PySem.W.Frag} {C : Addr} (q : oclsB K C = true) : ∃ nm q N bs bm sn sub ab col dd k0 k1 k2 k3 k5, K.lookup C = some (excClassObj nm q C N bs bm true sn sub ab col dd k0 k1 k2 k3 k5 "ValueError.__new__") ∧ PySem.HandSPX.refsVE bm = true := by
  unfold oclsB at q
  split at q
  · rename_i dd cd sl ho
    split at q
    · rename_i C' bm k0 k1 k2 k3 n k5 hm hs
      simp only [Bool.and_eq_true, beq_iff_eq, Bool.not_eq_true'] at q
      obtain ⟨⟨⟨⟨rfl, rfl⟩, hdel⟩, hdc⟩, ht⟩ := q
      obtain ⟨nm, bs, mro, ns, qn, hd, sn, sub, ab, col, del⟩ := cd
      dsimp only at hm hdel hdc
      subst hm hdel hdc
      have hsl : sl = #[k0, k1, k2, k3, some (.builtin "ValueError.__new__"), k5] := by
        obtain ⟨l⟩ := sl
        simp only at hs
        rw [hs]
      subst hsl
      exact ⟨nm, qn, ns, bs, bm, sn, sub, ab, col, dd, k0, k1, k2, k3, k5, ho, ht⟩
    · cases q
  · cases q
def oexB (K : PySem.W.Frag) (C : Addr) : Bool := oclsB K C && (He.eqO (PySem.W.findIn K (.ref C) "__setattr__") (some (some (.builtin "object.__setattr__"))) && (decide (PySem.W.subIn K (.ref C) (.type "BaseException") = some true) && (decide (PySem.W.typeIn K (.ref C) = some (.type "type")) && PySem.W.keepIn K (.ref C))))
theorem oexB_ok {K : PySem.W.Frag} {C : Addr} (h : oexB K C = true) : OexC K C := by
  obtain ⟨h1, h⟩ := He.ba h
  obtain ⟨h2, h⟩ := He.ba h
  obtain ⟨h3, h⟩ := He.ba h
  obtain ⟨h4, h5⟩ := He.ba h
  exact ⟨ocls_of h1, He.eqO_ok h2, of_decide_eq_true h3, of_decide_eq_true h4, h5⟩
/-- an own error: its class's name, the def of its __init__, its default, the file of its code -/
structure ErrD where
  cls : Str
  qual : Str
  st : Stmt
  why : Str
  file : Str
abbrev FnC : Type := Option (Str × Str × Arguments × FuncBody × Scope × Addr × List Str × Addr)
def iniA (K : PySem.W.Frag) (x : Str) : Addr := He.ma K (He.ga K x) "__init__"
def fnC (K : PySem.W.Frag) (x : Str) : FnC := match K.lookup (iniA K x) with
  | some ⟨_, _, .func fd, _⟩ => some (fd.name, fd.qualname, fd.params, fd.body, fd.scope, fd.globals, fd.closure.map (·.1), fd.builtins)
  | _ => none
def ErrD.val (d : ErrD) : FnC := some ("__init__", d.qual, defArgs d.st, .stmts (defBody d.st), defScope d.st, mainGlobals, ["__class__"], builtinsNs)
def fileB (K : PySem.W.Frag) (c : Addr) (file : Str) : Bool := match K.lookup c with
  | some ⟨_, _, .fields vs, _⟩ => (match (vs[2]? : Option Value) with
    | some (.str f _) => file == f
    | _ => false)
  | _ => false
def cellB (K : PySem.W.Frag) (cc C : Addr) : Bool := match K.lookup cc with
  | some ⟨_, _, .cell (some (.ref C')), _⟩ => decide (C' = C)
  | _ => false
def fileV (K : PySem.W.Frag) (file : Str) : Value → Bool
  | .ref c => fileB K c file
  | _ => false
def cloB (K : PySem.W.Frag) (C : Addr) : List (Str × Addr) → Bool
  | [(_, cc)] => cellB K cc C
  | _ => false
/-- the __init__ of d: its code object, its cell -/
def iniB (K : PySem.W.Frag) (d : ErrD) : Bool := match K.lookup (iniA K d.cls) with
  | some ⟨_, _, .func fd, _⟩ => PySem.W.codeIn K fd.code d.qual && (He.dflB K fd.defaults [.str d.why] && (fileV K d.file fd.code && cloB K (He.ga K d.cls) fd.closure))
  | _ => false
def errB (K : PySem.W.Frag) (d : ErrD) : Bool := oexB K (He.ga K d.cls) && (iniB K d && (decide (PySem.W.mroIn K (He.ga K d.cls) (.ref (He.ga K d.cls)) = some true) && (He.eqO (PySem.W.ks_superIn K (He.ga K d.cls) (He.ga K d.cls) "__init__") (some (some (.builtin "ValueError.__init__"))) &&
  (decide (PySem.W.subIn K (.ref (He.ga K d.cls)) (.type "ValueError") = some true) && (He.eqO (PySem.W.nsIn K cStatics "thirdparty.any") (some none) && (He.eqO (PySem.W.findIn K (.ref (He.ga K d.cls)) "__init__") (some (some (.ref (iniA K d.cls)))) &&
  (decide (PySem.W.typeIn K (.ref (iniA K d.cls)) = some (.type "function")) && He.eqO (PySem.W.findIn K (.ref (He.ga K d.cls)) "word") (some none))))))))
theorem fileB_ok {K : PySem.W.Frag} {c : Addr} {file : Str} (h : fileB K c file = true) : ∃ (ccl : Value) (cdd : Option Addr) (vs : Array Value) (ccs : Array (Option Value)) (f : Str) (tf : Tok), K.lookup c = some ⟨ccl, cdd, .fields vs, ccs⟩ ∧ vs[2]? = some (.str f tf) ∧ (file == f) = true := by
  unfold fileB at h
  split at h
  · rename_i ccl cdd vs ccs hk
    split at h
    · rename_i f tf hv
      exact ⟨ccl, cdd, vs, ccs, f, tf, hk, hv, h⟩
    · cases h
  · cases h
theorem cellB_ok {K : PySem.W.Frag} {cc C : Addr} (h : cellB K cc C = true) : ∃ (cl : Value) (cld : Option Addr) (csl : Array (Option Value)), K.lookup cc = some ⟨cl, cld, .cell (some (.ref C)), csl⟩ := by
  unfold cellB at h
  split at h
  · rename_i cl cld C' csl hk
    have e : C' = C := of_decide_eq_true h
    subst e
    exact ⟨cl, cld, csl, hk⟩
  · cases h
theorem iniB_ok {K : PySem.W.Frag} {d : ErrD} (e : fnC K d.cls = d.val) (h : iniB K d = true) :
    ∃ (c cc : Addr) (fd : FuncData), InitAt K d.qual d.st (iniA K d.cls) c cc [.str d.why] fd ∧ (∃ (ccl : Value) (cdd : Option Addr) (vs : Array Value) (ccs : Array (Option Value)) (f : Str) (tf : Tok), K.lookup c = some ⟨ccl, cdd, .fields vs, ccs⟩ ∧ vs[2]? = some (.str f tf) ∧ (d.file == f) = true) ∧
      ∃ (cl : Value) (cld : Option Addr) (csl : Array (Option Value)), K.lookup cc = some ⟨cl, cld, .cell (some (.ref (He.ga K d.cls))), csl⟩ := by
  unfold fnC at e
  unfold iniB at h
  cases q : K.lookup (iniA K d.cls) with
  | none =>
    rw [q] at h
    cases h
  | some o =>
    obtain ⟨oc, od, dt, osl⟩ := o
    rw [q] at h e
    cases dt with
    | func fd =>
      obtain ⟨n1, n2, n3, n4, n5, n6, n7, n8, n9, n10, n11, n12, n13, n14, n15⟩ := fd
      have e2 : (some (n1, n2, n3, n4, n5, n6, n7.map (·.1), n15) : FnC) = (some (("__init__" : Str), d.qual, defArgs d.st, FuncBody.stmts (defBody d.st), defScope d.st, mainGlobals, [("__class__" : Str)], builtinsNs) : FnC) := e
      simp only [Option.some.injEq, Prod.mk.injEq] at e2
      obtain ⟨h1, h2, h3, h4, h5, h6, h7, h8⟩ := e2
      subst h1 h2 h3 h4 h5 h6 h8
      have h0 : (PySem.W.codeIn K n13 d.qual && (He.dflB K n8 [.str d.why] && (fileV K d.file n13 && cloB K (He.ga K d.cls) n7))) = true := h
      obtain ⟨k1, h0⟩ := He.ba h0
      obtain ⟨k2, h0⟩ := He.ba h0
      obtain ⟨k3, k4⟩ := He.ba h0
      obtain ⟨c, rfl⟩ := He.codeIn_ref k1
      clear e h
      cases n7 with
      | nil => cases h7
      | cons z r =>
        cases r with
        | cons z2 r2 =>
          injection h7 with _ h9
          cases h9
        | nil =>
          obtain ⟨y, cc⟩ := z
          have ey : y = "__class__" := by
            have z : [y] = [("__class__" : Str)] := h7
            injection z
          subst ey
          exact ⟨c, cc, _, ⟨oc, od, n8, n9, n10, n11, n12, n14, osl, rfl, q, k1, He.dflB_ok k2⟩, fileB_ok k3, cellB_ok k4⟩
    | _ => cases h
/-! ### the Hook -/
/-- what is looked at: the module's names, and the statics -/
def asY (n : Nat) (g : Addr → Option Obj) : List Addr := cStatics :: He.asD g n
structure SaysY (fa : List He.Fa) (fn : List He.DefD) (tf : List He.Defn) (er : List ErrD) (ex : PySem.W.Frag → Bool) (w : World) (h : Heap) (K : PySem.W.Frag) : Prop where
  x : He.SaysX fa fn [] tf ex w h K
  er : ∀ d ∈ er, errB K d = true ∧ fnC K d.cls = d.val
abbrev AlY : Type := He.AlX × (Bool × List FnC)
def obsK (fa : List He.Fa) (fn : List He.DefD) (tf : List He.Defn) (er : List ErrD) (ex : PySem.W.Frag → Bool) (g : Addr → Option Obj) (K : PySem.W.Frag) : AlY := ((He.obsT fa fn [] K, ex K && He.tabsB g tf K), er.all (errB K), er.map fun d => fnC K d.cls)
def obsY (n : Nat) (fa : List He.Fa) (fn : List He.DefD) (tf : List He.Defn) (er : List ErrD) (ex : PySem.W.Frag → Bool) (g : Addr → Option Obj) : AlY := obsK fa fn tf er ex g (He.frT g (asY n g))
def valY (fn : List He.DefD) (er : List ErrD) (w : World) : AlY := (He.valX fn [] w, true, er.map ErrD.val)
theorem saysY_of {n : Nat} {fa : List He.Fa} {fn : List He.DefD} {tf : List He.Defn} {er : List ErrD} {ex : PySem.W.Frag → Bool} {w : World} {h : Heap} (e : obsY n fa fn tf er ex h.get? = valY fn er w) : SaysY fa fn tf er ex w h (He.frT h.get? (asY n h.get?)) := by
  have e1 : He.obsT fa fn [] (He.frT h.get? (asY n h.get?)) = He.valT fn [] w := congrArg (fun z : AlY => z.1.1) e
  have e2 : (ex (He.frT h.get? (asY n h.get?)) && He.tabsB h.get? tf (He.frT h.get? (asY n h.get?))) = true := congrArg (fun z : AlY => z.1.2) e
  have e3 : er.all (errB (He.frT h.get? (asY n h.get?))) = true := congrArg (fun z : AlY => z.2.1) e
  have e4 : er.map (fun d => fnC (He.frT h.get? (asY n h.get?)) d.cls) = er.map ErrD.val := congrArg (fun z : AlY => z.2.2) e
  generalize hK : He.frT h.get? (asY n h.get?) = K at e1 e2 e3 e4 ⊢
  obtain ⟨h1, h2⟩ := He.ba e2
  have key : ∀ p ∈ tf, PySem.W.codeHdIn K (He.cT K p).1 (He.cT K p).2 = true ∧ ∃ o, h.get? (He.cT K p).2 = some o ∧ He.emptyTab o = true := fun p hp => by
    obtain ⟨h3, h4⟩ := He.ba (List.all_eq_true.mp h2 p hp)
    refine ⟨h3, ?_⟩
    cases q : h.get? (He.cT K p).2 with
    | none =>
      rw [q] at h4
      cases h4
    | some o =>
      rw [q] at h4
      exact ⟨o, rfl, h4⟩
  refine ⟨⟨e1, h1, fun p hp => (key p hp).1, fun p hp => ?_, fun p hp => ?_⟩, fun d hd => ⟨List.all_eq_true.mp e3 d hd, List.map_inj_left.mp e4 d hd⟩⟩
  · obtain ⟨_, o, q, z⟩ := key p hp
    have y := He.frT_none (as := asY n h.get?) q z
    rw [hK] at y
    exact y
  · obtain ⟨_, o, q, z⟩ := key p hp
    rw [q, He.emptyTab_eq z]
def hookY (n : Nat) (fa : List He.Fa) (fn : List He.DefD) (tf : List He.Defn) (er : List ErrD) (ex : PySem.W.Frag → Bool) : PySem.W.Hook where
  α := AlY
  obs := fun s => obsY n fa fn tf er ex s.heap.get?
  val := fun w => valY fn er w
  says := fun w h => ∃ K : PySem.W.Frag, K.In h ∧ SaysY fa fn tf er ex w h K
  of := fun _ _ e => ⟨_, He.frT_in, saysY_of e⟩
  keeps := fun _ _ _ ⟨K, hK, c⟩ k => ⟨K, PySem.W.Frag.In.keeps hK k, ⟨⟨c.x.t, c.x.more, c.x.hd, c.x.out, fun p hp => k _ _ (c.x.empty p hp)⟩, c.er⟩⟩
theorem obsY_eq {n : Nat} {fa : List He.Fa} {fn : List He.DefD} {tf : List He.Defn} {er : List ErrD} {ex : PySem.W.Frag → Bool} {g : Addr → Option Obj} {s : Shared} (h : ∀ a, g a = s.heap.get? a) : obsY n fa fn tf er ex g = (hookY n fa fn tf er ex).obs s := by
  have e : g = s.heap.get? := funext h
  rw [e] <;> rfl
end Hs
namespace Hs
open PySem PySem.Spec PyProof.Rows L2 Evl
/-! ### the facts of the top -/
def dsCheck : He.DefD := ⟨("check_sift", none), "check_sift", "check_sift", defArgs sCheck, defBody sCheck, defScope sCheck, [], []⟩
def dsSifted : He.DefD := ⟨("sifted", none), "sifted", "sifted", defArgs sSifted, defBody sSifted, defScope sSifted, [], []⟩
def dsSummed : He.DefD := ⟨("summed", none), "summed", "summed", defArgs sSummed, defBody sSummed, defScope sSummed, [], []⟩
def dsBoth : He.DefD := ⟨("both_sifts", none), "both_sifts", "both_sifts", defArgs sBoth, defBody sBoth, defScope sBoth, [], []⟩
def dsBag : He.DefD := ⟨("_law_bag", none), "_law_bag", "_law_bag", defArgs sBag, defBody sBag, defScope sBag, [], []⟩
def dsPull : He.DefD := ⟨("_law_pull", none), "_law_pull", "_law_pull", defArgs sPull, defBody sPull, defScope sPull, [], []⟩
def dsOne : He.DefD := ⟨("_law_one", none), "_law_one", "_law_one", defArgs sOne, defBody sOne, defScope sOne, [], []⟩
def dsSame : He.DefD := ⟨("_law_same", none), "_law_same", "_law_same", defArgs sSame, defBody sSame, defScope sSame, [], []⟩
def dsAll : He.DefD := ⟨("_law_all_tried", none), "_law_all_tried", "_law_all_tried", defArgs sAll, defBody sAll, defScope sAll, [], []⟩
def dsTried : He.DefD := ⟨("_law_tried", none), "_law_tried", "_law_tried", defArgs sTried, defBody sTried, defScope sTried, [], []⟩
def dsSift : He.DefD := ⟨("_law_sift", none), "_law_sift", "_law_sift", defArgs sSift, defBody sSift, defScope sSift, [], []⟩
def dsSum : He.DefD := ⟨("_law_sum", none), "_law_sum", "_law_sum", defArgs sSum, defBody sSum, defScope sSum, [], []⟩
def dsTint : He.DefD := ⟨("_law_tint", none), "_law_tint", "_law_tint", defArgs sTint, defBody sTint, defScope sTint, [], []⟩
def dsLetters : He.DefD := ⟨("_law_letters", none), "_law_letters", "_law_letters", defArgs sLetters, defBody sLetters, defScope sLetters, [], []⟩
def dsLaw : He.DefD := ⟨("law", none), "law", "law", defArgs sLaw, defBody sLaw, defScope sLaw, [], []⟩
def fn : List He.DefD := [dsCheck, dsSifted, dsSummed, dsBoth, dsBag, dsPull, dsOne, dsSame, dsAll, dsTried, dsSift, dsSum, dsTint, dsLetters, dsLaw]
def fa : List He.Fa := [.glo "check_sift", .glo "sifted", .glo "summed", .glo "both_sifts", .glo "_law_bag", .glo "_law_pull", .glo "_law_one", .glo "_law_same", .glo "_law_all_tried", .glo "_law_tried", .glo "_law_sift", .glo "_law_sum", .glo "_law_tint", .glo "_law_letters", .glo "law", .glo "BadSift", .glo "NoThing", .glo "NoLook", .glo "Looked", .glo "BadText", .glo "ShadeError", .glo "Missing", .glo "Crowded", .glo "SIFTS", .glo "DARK", .free "len", .free "list", .free "int", .free "str", .free "bool", .free "tuple", .free "isinstance", .free "all", .free "range", .free "super", .free "sum", .int "BRIGHT" 1000000]
abbrev sBadSift : Stmt := inClass (top 2) 0
def dBadSift : ErrD := ⟨"BadSift", "BadSift.__init__", sBadSift, "no such sift", "/claim/cut.py"⟩
def siftsD : List He.Dv := [.str "", .str "r", .str "g", .str "b", .str "rg", .str "rb", .str "gb", .str "rgb"]
def darkD : List He.Dv := [.int 0, .int 0, .int 0]
def wordB (K : PySem.W.Frag) (C cN cL cK cB cS cM cC : Addr) : Bool := decide (PySem.W.exmOne K (.ref C) (.ref cN) = some false) && (decide (PySem.W.exmAny K (.ref C) [.ref cL, .ref cK] = some false) && (decide (PySem.W.exmOne K (.ref C) (.ref cB) = some false) && (decide (PySem.W.exmAny K (.ref C) [.ref cS, .ref cM, .ref cC] = some true) && (xfB K C && He.eqO (PySem.W.findIn K (.ref C) "word") (some none)))))
theorem wordB_ok {K : PySem.W.Frag} {C cN cL cK cB cS cM cC : Addr} (h : wordB K C cN cL cK cB cS cM cC = true) : Word K C cN cL cK cB cS cM cC := by
  obtain ⟨h1, h⟩ := He.ba h
  obtain ⟨h2, h⟩ := He.ba h
  obtain ⟨h3, h⟩ := He.ba h
  obtain ⟨h4, h⟩ := He.ba h
  obtain ⟨h5, h6⟩ := He.ba h
  exact ⟨of_decide_eq_true h1, of_decide_eq_true h2, of_decide_eq_true h3, of_decide_eq_true h4, xfB_ok h5, He.eqO_ok h6⟩
def exB (K : PySem.W.Frag) : Bool := wordB K (He.ga K "BadSift") (He.ga K "NoThing") (He.ga K "NoLook") (He.ga K "Looked") (He.ga K "BadText") (He.ga K "ShadeError") (He.ga K "Missing") (He.ga K "Crowded") && (He.tupB K "SIFTS" siftsD && He.tupB K "DARK" darkD)
abbrev R : PySem.W.OpenRow := PySem.W.OpenLaw.row PySem.Challenge.rw_hueshade_k08_lights_and_sifts
abbrev hk : PySem.W.Hook := hookY 4 fa fn [("law", none)] [dBadSift] exB
def ob (s : PySem.W.SharedT) : AlY := obsY 4 fa fn [("law", none)] [dBadSift] exB (HandSHeadRun.getT s)
theorem ob_eq (s : PySem.W.SharedT) : ob s = hk.obs s.abs := obsY_eq (HandSHeadRun.getT_eq s)
abbrev others : List Str := ["__name__", "ShadeError", "BadSift", "BadText", "Missing", "NoThing", "NoLook", "Crowded", "Looked", "BRIGHT", "SIFTS", "DARK", "check_sift", "sifted", "summed", "both_sifts", "_law_bag", "_law_pull", "_law_one", "_law_same", "_law_all_tried", "_law_tried", "_law_sift", "_law_sum", "_law_tint", "_law_letters"]
theorem run (w : World) : HandSHeadRun.RunEq R (PySem.W.view R.prog [28]) hk ob 5000 others w := by
  intro os
  kernel_rfl
end Hs
namespace Hs
open PySem PySem.Spec PyProof.Rows L2 Evl
/-- the error of a sift, as it stands -/
theorem sifterr_ok {P : Program} {w : World} {K : PySem.W.Frag} {mg : Str → Option Value} {base : Heap} (hP : (P.main.file : Str) = "/claim/cut.py") (hPs : (P.main.scope.names.lookup ("super" : Str)).isSome = false) (gs : mg "super" = none) (gx : mg "BadSift" = some (.ref (He.ga K "BadSift")))
    (h : errB K dBadSift = true) (e : fnC K dBadSift.cls = dBadSift.val) : ErrF P w K mg base 1 "BadSift" (He.ga K "BadSift") "badsift" := by
  obtain ⟨h1, h⟩ := He.ba h
  obtain ⟨h2, h⟩ := He.ba h
  obtain ⟨h3, h⟩ := He.ba h
  obtain ⟨h4, h⟩ := He.ba h
  obtain ⟨h5, h⟩ := He.ba h
  obtain ⟨h6, h⟩ := He.ba h
  obtain ⟨h7, h⟩ := He.ba h
  obtain ⟨h8, h9⟩ := He.ba h
  obtain ⟨c, cc, fd, I0, hf, hc⟩ := iniB_ok e h2
  have ox := oexB_ok h1
  have T : SupC P K mg (He.ga K "BadSift") c cc := ⟨ox, by rw [hP]; exact hf, hc, of_decide_eq_true h3, He.eqO_ok h4, of_decide_eq_true h5, He.eqO_ok h6, gs, hPs⟩
  have G : FnOk P w K mg base CX0 1 (iniA K "BadSift") fd ["self", "why"] (spErr (He.ga K "BadSift") "badsift") := err_ok (st := sBadSift) T I0 (He.eqO_ok h9) rfl
    (NdefX.nscope_by (by decide +kernel)) rfl rfl rfl rfl rfl (fun _ => rfl) (fun _ => rfl) (fun _ => rfl) (fun _ => rfl) (fun _ => rfl)
  obtain ⟨oc, od, dV, kV, doc, pm, an, ct, osl, rfl, lk, hcd, hD⟩ := I0
  rcases hD with ⟨z, _⟩ | ⟨_, Ta, o, its, m, rfl, lT, oT, rT⟩
  · cases z
  · have hits : ∃ d, its = [d] := by
      have l := rT.length
      match its, l with
      | [d], _ => exact ⟨d, rfl⟩
    obtain ⟨d, rfl⟩ := hits
    have rd : RelV (.str "no such sift") d := match rT with
      | .cons r _ => r
    refine ⟨ox, gx, _, _, _, _, d, He.eqO_ok h7, of_decide_eq_true h8, G, rd, fun s us X hlen => ?_⟩
    have hl1 : us.length = 1 := by
      rw [List.length_append] at hlen
      exact Nat.succ.inj hlen
    match us, hl1 with
    | [u], _ =>
      refine BindsTo.of_looks fun M => ?_
      exact looks_items X lT oT (.of_pure rfl)
theorem facts {P : Program} {w : World} {K : PySem.W.Frag} {h : Heap} {mg : Str → Option Value} {f : Addr} (hP : (P.main.file : Str) = "/claim/cut.py") (hPs : (P.main.scope.names.lookup ("super" : Str)).isSome = false) (X : K.In h) (G : h.Ns mainGlobals mg) (hfa : mg ("law" : Str) = some (.ref f)) (c : SaysY fa fn [("law", none)] [dBadSift] exB w h K) :
    ∃ (fd : FuncData) (cc pt : Addr), h.get? pt = some { cls := .none, data := .fields #[] } ∧ K.lookup pt = none ∧ PySem.W.CodeHd h cc pt ∧ (∀ (s : Shared) (v : Value), BindsTo s fd ⟨[v], []⟩ [("_law_script", v)]) ∧
      ∀ base : Heap, LamX.TabB base mg cc pt → FnOk P w K mg base CX0 8 f fd ["_law_script"] (spLaw K [(pt, lamQ)]) := by
  have cd := c.x.t.d
  obtain ⟨fd_check_sift, F_check_sift⟩ : ∃ fd, FnP K "check_sift" sCheck (He.ga K "check_sift") fd := cd.def_ 0 (d := dsCheck) rfl
  have m_check_sift := He.glo_ok X G (cd.fact 0 (f := .glo "check_sift") rfl)
  obtain ⟨fd_sifted, F_sifted⟩ : ∃ fd, FnP K "sifted" sSifted (He.ga K "sifted") fd := cd.def_ 1 (d := dsSifted) rfl
  have m_sifted := He.glo_ok X G (cd.fact 1 (f := .glo "sifted") rfl)
  obtain ⟨fd_summed, F_summed⟩ : ∃ fd, FnP K "summed" sSummed (He.ga K "summed") fd := cd.def_ 2 (d := dsSummed) rfl
  have m_summed := He.glo_ok X G (cd.fact 2 (f := .glo "summed") rfl)
  obtain ⟨fd_both_sifts, F_both_sifts⟩ : ∃ fd, FnP K "both_sifts" sBoth (He.ga K "both_sifts") fd := cd.def_ 3 (d := dsBoth) rfl
  have m_both_sifts := He.glo_ok X G (cd.fact 3 (f := .glo "both_sifts") rfl)
  obtain ⟨fd__law_bag, F__law_bag⟩ : ∃ fd, FnP K "_law_bag" sBag (He.ga K "_law_bag") fd := cd.def_ 4 (d := dsBag) rfl
  have m__law_bag := He.glo_ok X G (cd.fact 4 (f := .glo "_law_bag") rfl)
  obtain ⟨fd__law_pull, F__law_pull⟩ : ∃ fd, FnP K "_law_pull" sPull (He.ga K "_law_pull") fd := cd.def_ 5 (d := dsPull) rfl
  have m__law_pull := He.glo_ok X G (cd.fact 5 (f := .glo "_law_pull") rfl)
  obtain ⟨fd__law_one, F__law_one⟩ : ∃ fd, FnP K "_law_one" sOne (He.ga K "_law_one") fd := cd.def_ 6 (d := dsOne) rfl
  have m__law_one := He.glo_ok X G (cd.fact 6 (f := .glo "_law_one") rfl)
  obtain ⟨fd__law_same, F__law_same⟩ : ∃ fd, FnP K "_law_same" sSame (He.ga K "_law_same") fd := cd.def_ 7 (d := dsSame) rfl
  have m__law_same := He.glo_ok X G (cd.fact 7 (f := .glo "_law_same") rfl)
  obtain ⟨fd__law_all_tried, F__law_all_tried⟩ : ∃ fd, FnP K "_law_all_tried" sAll (He.ga K "_law_all_tried") fd := cd.def_ 8 (d := dsAll) rfl
  have m__law_all_tried := He.glo_ok X G (cd.fact 8 (f := .glo "_law_all_tried") rfl)
  obtain ⟨fd__law_tried, F__law_tried⟩ : ∃ fd, FnP K "_law_tried" sTried (He.ga K "_law_tried") fd := cd.def_ 9 (d := dsTried) rfl
  have m__law_tried := He.glo_ok X G (cd.fact 9 (f := .glo "_law_tried") rfl)
  obtain ⟨fd__law_sift, F__law_sift⟩ : ∃ fd, FnP K "_law_sift" sSift (He.ga K "_law_sift") fd := cd.def_ 10 (d := dsSift) rfl
  have m__law_sift := He.glo_ok X G (cd.fact 10 (f := .glo "_law_sift") rfl)
  obtain ⟨fd__law_sum, F__law_sum⟩ : ∃ fd, FnP K "_law_sum" sSum (He.ga K "_law_sum") fd := cd.def_ 11 (d := dsSum) rfl
  have m__law_sum := He.glo_ok X G (cd.fact 11 (f := .glo "_law_sum") rfl)
  obtain ⟨fd__law_tint, F__law_tint⟩ : ∃ fd, FnP K "_law_tint" sTint (He.ga K "_law_tint") fd := cd.def_ 12 (d := dsTint) rfl
  have m__law_tint := He.glo_ok X G (cd.fact 12 (f := .glo "_law_tint") rfl)
  obtain ⟨fd__law_letters, F__law_letters⟩ : ∃ fd, FnP K "_law_letters" sLetters (He.ga K "_law_letters") fd := cd.def_ 13 (d := dsLetters) rfl
  have m__law_letters := He.glo_ok X G (cd.fact 13 (f := .glo "_law_letters") rfl)
  obtain ⟨fd_law, F_law⟩ : ∃ fd, FnP K "law" sLaw (He.ga K "law") fd := cd.def_ 14 (d := dsLaw) rfl
  have m_law := He.glo_ok X G (cd.fact 14 (f := .glo "law") rfl)
  have m_BadSift := He.glo_ok X G (cd.fact 15 (f := .glo "BadSift") rfl)
  have m_NoThing := He.glo_ok X G (cd.fact 16 (f := .glo "NoThing") rfl)
  have m_NoLook := He.glo_ok X G (cd.fact 17 (f := .glo "NoLook") rfl)
  have m_Looked := He.glo_ok X G (cd.fact 18 (f := .glo "Looked") rfl)
  have m_BadText := He.glo_ok X G (cd.fact 19 (f := .glo "BadText") rfl)
  have m_ShadeError := He.glo_ok X G (cd.fact 20 (f := .glo "ShadeError") rfl)
  have m_Missing := He.glo_ok X G (cd.fact 21 (f := .glo "Missing") rfl)
  have m_Crowded := He.glo_ok X G (cd.fact 22 (f := .glo "Crowded") rfl)
  have m_SIFTS := He.glo_ok X G (cd.fact 23 (f := .glo "SIFTS") rfl)
  have m_DARK := He.glo_ok X G (cd.fact 24 (f := .glo "DARK") rfl)
  have g_len := He.free_ok X G (cd.fact 25 (f := .free "len") rfl)
  have g_list := He.free_ok X G (cd.fact 26 (f := .free "list") rfl)
  have g_int := He.free_ok X G (cd.fact 27 (f := .free "int") rfl)
  have g_str := He.free_ok X G (cd.fact 28 (f := .free "str") rfl)
  have g_bool := He.free_ok X G (cd.fact 29 (f := .free "bool") rfl)
  have g_tuple := He.free_ok X G (cd.fact 30 (f := .free "tuple") rfl)
  have g_isinstance := He.free_ok X G (cd.fact 31 (f := .free "isinstance") rfl)
  have g_all := He.free_ok X G (cd.fact 32 (f := .free "all") rfl)
  have g_range := He.free_ok X G (cd.fact 33 (f := .free "range") rfl)
  have g_super := He.free_ok X G (cd.fact 34 (f := .free "super") rfl)
  have g_sum := He.free_ok X G (cd.fact 35 (f := .free "sum") rfl)
  obtain ⟨tF, m_BRIGHT⟩ := He.int_ok X G (cd.fact 36 (f := .int "BRIGHT" 1000000) rfl)
  have ef : f = He.ga K "law" := by
    have e := hfa.symm.trans m_law
    cases e
    rfl
  subst ef
  obtain ⟨xw, xt⟩ := He.ba (show (wordB K (He.ga K "BadSift") (He.ga K "NoThing") (He.ga K "NoLook") (He.ga K "Looked") (He.ga K "BadText") (He.ga K "ShadeError") (He.ga K "Missing") (He.ga K "Crowded") && (He.tupB K "SIFTS" siftsD && He.tupB K "DARK" darkD)) = true from c.x.more)
  obtain ⟨xS, xD⟩ := He.ba xt
  have wc := wordB_ok xw
  have hS : ∀ H, SqT K H (He.ga K "SIFTS") siftsV := fun H => He.tupB_ok xS H
  have hD : ∀ H, SqT K H (He.ga K "DARK") (tri (0, 0, 0)) := fun H => He.tupB_ok xD H
  have ct : Cats mg (He.ga K "NoThing") (He.ga K "NoLook") (He.ga K "Looked") (He.ga K "BadText") (He.ga K "ShadeError") (He.ga K "Missing") (He.ga K "Crowded") := ⟨m_NoThing, m_NoLook, m_Looked, m_BadText, m_ShadeError, m_Missing, m_Crowded⟩
  obtain ⟨erB, erV⟩ := c.er dBadSift (List.mem_singleton.mpr rfl)
  have hb := FunD.bindsA (ps := ["_law_script"]) F_law (fun _ _ _ _ _ _ us hl => match us, hl with | [_], _ => rfl)
  obtain ⟨oc, od, dV, kV, doc, pm, an, cdv, ctt, osl, rfl, lk, hcd, _, _⟩ := F_law.ex
  obtain ⟨cc, rfl⟩ := He.codeIn_ref hcd
  have ecc : He.codeOf K ("law", none) = cc := He.codeOf_eq (p := ("law", none)) lk rfl
  refine ⟨_, cc, He.tabOf K cc, ?_, ?_, ?_, fun s v => hb s [v] rfl, fun base TB => ?_⟩
  · have z := c.x.empty ("law", none) (List.mem_singleton.mpr rfl)
    rw [← ecc]
    exact z
  · have z := c.x.out ("law", none) (List.mem_singleton.mpr rfl)
    rw [← ecc]
    exact z
  · have z := c.x.hd ("law", none) (List.mem_singleton.mpr rfl)
    rw [← ecc]
    exact PySem.W.codeHd_of_K X z
  · have OC : ∀ base : Heap, OwnX P w K mg base 3 "check_sift" ["sift"] [] (spCheck (He.ga K "BadSift")) := fun base => ⟨_, _, [], ok_check F_check_sift (sifterr_ok (P := P) (w := w) (base := base) hP hPs g_super m_BadSift erB erV) ⟨m_SIFTS, rfl⟩ hS, m_check_sift, F_check_sift.kp, .nil, F_check_sift.bindsN (fun _ _ _ _ _ _ us hl => match us, hl with | [_], _ => rfl)⟩
    have OS : ∀ base : Heap, OwnX P w K mg base 4 "sifted" ["light", "sift"] [] (spSifted K (He.ga K "BadSift")) := fun base => ⟨_, _, [], ok_sifted F_sifted (OC base), m_sifted, F_sifted.kp, .nil, F_sifted.bindsN (fun _ _ _ _ _ _ us hl => match us, hl with | [_, _], _ => rfl)⟩
    have OB : ∀ base : Heap, OwnX P w K mg base 4 "both_sifts" ["one", "other"] [] (spBoth (He.ga K "BadSift")) := fun base => ⟨_, _, [], ok_both F_both_sifts (OC base), m_both_sifts, F_both_sifts.kp, .nil, F_both_sifts.bindsN (fun _ _ _ _ _ _ us hl => match us, hl with | [_, _], _ => rfl)⟩
    have OA : ∀ base : Heap, Own P w K mg base 7 "_law_all_tried" ["_law_acts"] (spAll P w K mg base 5 lamQ (He.ga K "NoThing") (He.ga K "NoLook") (He.ga K "Looked") (He.ga K "BadText") (He.ga K "ShadeError") (He.ga K "Missing") (He.ga K "Crowded")) := fun base => own_of F__law_all_tried m__law_all_tried (ok_all F__law_all_tried (own_of F__law_tried m__law_tried (ok_tried (k := 5) (q := lamQ) F__law_tried ct) (fun _ _ _ _ _ _ us hl => match us, hl with | [_], _ => rfl))) (fun _ _ _ _ _ _ us hl => match us, hl with | [_], _ => rfl)
    have O__law_pull := own_of F__law_pull m__law_pull (ok_pull (P := P) (w := w) (base := base) F__law_pull g_len) (fun _ _ _ _ _ _ us hl => match us, hl with | [_, _], _ => rfl)
    have O__law_bag := own_of F__law_bag m__law_bag (ok_bag (P := P) (w := w) (base := base) F__law_bag g_len g_list) (fun _ _ _ _ _ _ us hl => match us, hl with | [_], _ => rfl)
    have O__law_tint := own_of F__law_tint m__law_tint (ok_tint F__law_tint O__law_pull g_range g_tuple) (fun _ _ _ _ _ _ us hl => match us, hl with | [_], _ => rfl)
    have O__law_letters := own_of F__law_letters m__law_letters (ok_letters F__law_letters O__law_pull) (fun _ _ _ _ _ _ us hl => match us, hl with | [_], _ => rfl)
    have O__law_one := own_of F__law_one m__law_one (ok_one F__law_one O__law_pull g_len) (fun _ _ _ _ _ _ us hl => match us, hl with | [_, _], _ => rfl)
    have O__law_same := own_of F__law_same m__law_same (ok_same (P := P) (w := w) (base := base) F__law_same m__law_same g_len g_isinstance g_bool g_int g_str g_list g_tuple g_all g_range 3) (fun _ _ _ _ _ _ us hl => match us, hl with | [_, _], _ => rfl)
    have O__law_sift := own_of F__law_sift m__law_sift (ok_sift (P := P) (w := w) (base := base) F__law_sift g_tuple g_range) (fun _ _ _ _ _ _ us hl => match us, hl with | [_, _], _ => rfl)
    have O__law_sum := own_of F__law_sum m__law_sum (ok_sum (P := P) (w := w) (base := base) F__law_sum g_tuple g_range g_sum) (fun _ _ _ _ _ _ us hl => match us, hl with | [_], _ => rfl)
    have sL := ok_summedL (P := P) (w := w) (base := base) F_summed ⟨m_DARK, rfl⟩ hD
    have sT := ok_summedT (P := P) (w := w) (base := base) F_summed ⟨m_DARK, rfl⟩ hD
    have O_summed : Own P w K mg base 1 "summed" ["lights"] (spSummed K) := own_of F_summed m_summed ⟨fun vs H Q E h => h.elim (sL.len vs H Q E) (sT.len vs H Q E), fun A outer s H args us vs Q E hr e0 hb r h => h.elim (sL.run A outer s H args us vs Q E hr e0 hb r) (sT.run A outer s H args us vs Q E hr e0 hb r)⟩ (fun _ _ _ _ _ _ us hl => match us, hl with | [_], _ => rfl)
    refine L2.fn_of lk hcd scLaw (fun vs H Q E h => ?_) (fun A outer s H vs Q E hr h => law_body hr O__law_bag O__law_pull O__law_tint O__law_letters O__law_one O__law_same (OS base) (OB base) O__law_sift O_summed O__law_sum (fun base' _ => OA base') (fun base' _ => OS base') (fun base' _ => OB base') TB g_range g_tuple g_list ⟨m_SIFTS, rfl⟩ hS ⟨m_DARK, rfl⟩ hD ⟨_, m_BRIGHT, ⟨tF, rfl⟩⟩ wc h)
    obtain ⟨a, ns, rfl, _⟩ := h
    rfl
end Hs
open PySem PySem.W PySem.Calls PyProof.Rows
theorem PySem.Challenge.cw_hueshade_k08_lights_and_sifts_holds : PySem.Challenge.rw_hueshade_k08_lights_and_sifts.Holds := by
  w_on; o_law
  refine HandSHeadRun.head_any (r := OpenLaw.row PySem.Challenge.rw_hueshade_k08_lights_and_sifts) (q := view (OpenLaw.row PySem.Challenge.rw_hueshade_k08_lights_and_sifts).prog [28]) (H := Hs.hk) (ob := Hs.ob) (M := 5000) (loose := Hs.others) (d := HandSHeadRun.topDef (OpenLaw.row PySem.Challenge.rw_hueshade_k08_lights_and_sifts).prog 28) (kwd := []) Hs.ob_eq
    (by kernel_rfl) (fun s => by kernel_rfl) Hs.run (by kernel_rfl) (by kernel_rfl) (by kernel_rfl) (by rfl) (by first | assumption | decide +kernel) (by decide +kernel) ⟨rfl, rfl, rfl, rfl, rfl, by decide +kernel⟩ ?hw ?hc
  case hw => w_witness2
  case hc =>
    refine LamX.walk_ofTsE (l := PySem.Challenge.rw_hueshade_k08_lights_and_sifts) (n := 63) (k := 8) (x := "_law_script") (CX := fun _ => L2.CX0) rfl (by decide) (by kernel_rfl) ⟨rfl, by decide, by decide⟩ ?F (fun _ _ _ _ _ z => z)
    intro w mg fa h Y G hmg0
    obtain ⟨K, KX, c⟩ := Y
    have hmg : mg ("law" : PySem.Str) = some (.ref fa) := by
      have e : (HandSHeadRun.topDef (OpenLaw.row PySem.Challenge.rw_hueshade_k08_lights_and_sifts).prog 28).name = ("law" : PySem.Str) := by kernel_rfl
      rw [← e]
      exact hmg0
    obtain ⟨fd, cc, pt, h1, h2, h3, hb, hF⟩ := Hs.facts (P := (PySem.Challenge.rw_hueshade_k08_lights_and_sifts).prog) (w := w) (by kernel_rfl) (by kernel_rfl) KX G hmg c
    refine ⟨K, KX, fd, [(cc, pt)], Hs.spLaw K [(pt, Hs.lamQ)], fun p hp => ?_, fun p hp => ?_, fun p hp => ?_, hb, fun H a ns hl _ hT hS => ⟨a, ns, rfl, hS, hl, fun p hp => ?_, fun _ => rfl⟩, fun base _ _ hB => hF base (hB (cc, pt) (List.mem_singleton.mpr rfl))⟩
    · rw [List.mem_singleton.mp hp]
      exact h1
    · rw [List.mem_singleton.mp hp]
      exact h2
    · rw [List.mem_singleton.mp hp]
      exact h3
    · rw [List.mem_singleton.mp hp]
      exact LamX.TabS.nil (hT (cc, pt) (List.mem_singleton.mpr rfl))
