import PyProof.Rows.All
import Wide.All
import OpenK.AllK
import Wide.FinOn
import HandS.ForMost
import HandS.ForExc
import HandS.Wide
import HandS.IsInst
import HandS.Lambda
import HandS.Defaults
import HandS.Evl
import HandS.Codes
import HandS.Style
import HandS.More
import HandS.FStr
import HandS.TryMany
import HandS.ExcField
import HandS.NoneIn
import HandS.ExcInit
import HandS.ExcSuper
import KE.KExcSuper
import KE.DatumOrd
import HandS.Zip
import HandS.Walk
import HandS.Star
import HandS.Flow
import HandS.Nested
import HandS.Head0
import HandS.Head1
import HandS.Head2
import HandS.HeadEnd
import HandS.HeadHook1
import HandS.HeadHook2
import HandS.HeadHook3
import HandS.HeadHook4
import HandS.HeadWalk
import PySem.Challenge.RW_hueshade_k01_sides_of_places
set_option Elab.async false
set_option linter.all false
set_option maxRecDepth 100000
set_option maxHeartbeats 0
namespace Hs
/-! ### fractions in lowest terms -/
/-- the common part, with the sign of the bottom -/
def sg (a b : Int) : Int := if b < 0 then -(Int.gcd a b : Int) else (Int.gcd a b : Int)
def low (a b : Int) : Int × Int := (a.fdiv (sg a b), b.fdiv (sg a b))
theorem gcd_pos {a b : Int} (h : b ≠ 0) : 0 < Int.gcd a b := Int.gcd_pos_of_ne_zero_right a h
theorem sg_ne {a b : Int} (h : b ≠ 0) : sg a b ≠ 0 := by
  have := gcd_pos (a := a) h
  unfold sg
  split <;> omega
theorem sg_abs {a b : Int} : (sg a b).natAbs = Int.gcd a b := by
  unfold sg
  split <;> omega
theorem sg_dvd_left (a b : Int) : sg a b ∣ a := by
  unfold sg
  split
  · exact Int.neg_dvd.mpr (Int.gcd_dvd_left ..)
  · exact Int.gcd_dvd_left ..
theorem sg_dvd_right (a b : Int) : sg a b ∣ b := by
  unfold sg
  split
  · exact Int.neg_dvd.mpr (Int.gcd_dvd_right ..)
  · exact Int.gcd_dvd_right ..
theorem low_1 (a b : Int) : a = sg a b * (low a b).1 := by
  have h := sg_dvd_left a b
  show a = sg a b * a.fdiv (sg a b)
  rw [Int.fdiv_eq_ediv_of_dvd h, Int.mul_ediv_cancel' h]
theorem low_2 (a b : Int) : b = sg a b * (low a b).2 := by
  have h := sg_dvd_right a b
  show b = sg a b * b.fdiv (sg a b)
  rw [Int.fdiv_eq_ediv_of_dvd h, Int.mul_ediv_cancel' h]
theorem low_of {a b g x y : Int} (h : b ≠ 0) (hg : sg a b = g) (ha : a = g * x) (hb : b = g * y) : low a b = (x, y) := by
  have h1 := low_1 a b
  have h2 := low_2 a b
  have hn : g ≠ 0 := by
    rw [← hg]
    exact sg_ne h
  rw [hg] at h1 h2
  have e1 : (low a b).1 = x := Int.eq_of_mul_eq_mul_left hn (h1.symm.trans ha)
  have e2 : (low a b).2 = y := Int.eq_of_mul_eq_mul_left hn (h2.symm.trans hb)
  rw [← e1, ← e2]
theorem low_pos {a b : Int} (h : b ≠ 0) : 0 < (low a b).2 := by
  have h2 := low_2 a b
  have hp := gcd_pos (a := a) h
  by_cases hb : b < 0
  · have e : sg a b = -(Int.gcd a b : Int) := if_pos hb
    rw [e] at h2
    apply Decidable.byContradiction
    intro hn
    have : 0 ≤ -(Int.gcd a b : Int) * (low a b).2 := by
      have := Int.mul_nonneg_of_nonpos_of_nonpos (a := -(Int.gcd a b : Int)) (b := (low a b).2) (by omega) (by omega)
      exact this
    omega
  · have e : sg a b = (Int.gcd a b : Int) := if_neg hb
    rw [e] at h2
    apply Decidable.byContradiction
    intro hn
    have : (Int.gcd a b : Int) * (low a b).2 ≤ 0 := Int.mul_nonpos_of_nonneg_of_nonpos (by omega) (by omega)
    omega
theorem low_b1 {a b : Int} (h : b ≠ 0) : (low a b).1.natAbs ≤ a.natAbs := by
  have h1 := congrArg Int.natAbs (low_1 a b)
  rw [Int.natAbs_mul, sg_abs] at h1
  rw [h1]
  exact Nat.le_mul_of_pos_left _ (gcd_pos h)
theorem low_b2 {a b : Int} (h : b ≠ 0) : (low a b).2.natAbs ≤ b.natAbs := by
  have h1 := congrArg Int.natAbs (low_2 a b)
  rw [Int.natAbs_mul, sg_abs] at h1
  have h2 := Nat.le_mul_of_pos_left (low a b).2.natAbs (gcd_pos (a := a) h)
  omega
theorem sg_mul {k a b : Int} (hk : k ≠ 0) (h : b ≠ 0) : sg (k * a) (k * b) = k * sg a b := by
  unfold sg
  rw [Int.gcd_mul_left, Int.natCast_mul]
  by_cases h1 : 0 < k
  · have e : (k.natAbs : Int) = k := by omega
    rw [e]
    by_cases h2 : b < 0
    · have : k * b < 0 := Int.mul_neg_of_pos_of_neg h1 h2
      rw [if_pos this, if_pos h2, Int.mul_neg]
    · have : 0 ≤ k * b := Int.mul_nonneg (by omega) (by omega)
      rw [if_neg (by omega), if_neg h2]
  · have e : (k.natAbs : Int) = -k := by omega
    rw [e]
    by_cases h2 : b < 0
    · have : 0 ≤ k * b := Int.mul_nonneg_of_nonpos_of_nonpos (by omega) (by omega)
      rw [if_neg (by omega), if_pos h2, Int.mul_neg, Int.neg_mul]
    · have : k * b < 0 := Int.mul_neg_of_neg_of_pos (by omega) (by omega)
      rw [if_pos this, if_neg h2, Int.neg_mul, Int.neg_neg]
theorem low_scale {k a b : Int} (hk : k ≠ 0) (h : b ≠ 0) : low (k * a) (k * b) = low a b := by
  have hkb : k * b ≠ 0 := Int.mul_ne_zero hk h
  refine low_of hkb (sg_mul hk h) ?_ ?_
  · rw [Int.mul_assoc]
    exact congrArg (k * ·) (low_1 a b)
  · rw [Int.mul_assoc]
    exact congrArg (k * ·) (low_2 a b)
theorem low_one (a : Int) : low a 1 = (a, 1) := by
  have e : sg a 1 = 1 := by
    unfold sg
    rw [if_neg (by decide), Int.gcd_one_right] <;> rfl
  exact low_of (by decide) e (by omega) (by omega)
/-- the middle: the half of a sum in lowest terms -/
theorem low_half {x y : Int} (h : y ≠ 0) : low ((low x y).1 * 1) ((low x y).2 * 2) = low x (2 * y) := by
  have h1 := low_1 x y
  have h2 := low_2 x y
  have hp := low_pos (a := x) h
  have e : low x (2 * y) = low (sg x y * ((low x y).1 * 1)) (sg x y * ((low x y).2 * 2)) := by
    congr 1
    · rw [Int.mul_one]
      exact h1
    · rw [← Int.mul_assoc, ← h2, Int.mul_comm]
  rw [e]
  exact (low_scale (sg_ne h) (by omega)).symm
end Hs
namespace Hs
open PySem PySem.Spec PyProof.Rows L2 Evl
/-! ### own words -/
/-- // by any divisor but nought, below 2 ^ 9000 -/
def CDivG (_ j : Int) : Prop := j ≠ 0 ∧ j.natAbs.log2 < 9000
theorem op_fdivG {X : Cx} : OpR X (binaryOp .FloorDiv) (rI CDivG fun i j => .int (i.fdiv j)) := opI fun i j _ _ _ _ _ hc q => floordiv_int hc.1 q (.inl (PyProof.noPylong_of_log2 hc.2))
theorem divG {i j : Int} {b : Nat} (h : j ≠ 0) (hb : j.natAbs < 2 ^ b) (h0 : 0 < b) (h9 : b ≤ 9000) : CDivG i j := ⟨h, Nat.lt_of_lt_of_le (PySem.Flt.log2_lt_of h0 hb) h9⟩
theorem mul64 {i j : Int} (ha : i.natAbs < 2 ^ 64) (hb : j.natAbs < 2 ^ 64) : CMulW i j := wide_mul ha hb (by decide) (by decide) (by decide)
theorem modP {i j : Int} (h : 0 < j) : 0 ≤ i.fmod j ∧ i.fmod j < j := by
  rw [Int.fmod_eq_emod_of_nonneg i (Int.le_of_lt h)]
  exact ⟨Int.emod_nonneg i (by omega), Int.emod_lt_of_pos i h⟩
/-- an own def by its promise -/
structure Own (P : Program) (w : World) (K : PySem.W.Frag) (mg : Str → Option Value) (base : Heap) (k : Nat) (x : Str) (ps : List Str) (sp : Sp) : Prop where
  ex : ∃ (f : Addr) (fd : FuncData), FnOk P w K mg base CX0 k f fd ps sp ∧ mg x = some (.ref f) ∧ PySem.W.keepIn K (.ref f) = true ∧ Binds K fd ps []
theorem pe_own {X : Cx} {k j : Nat} {x : Str} {ps : List Str} {sp : Sp} {e : Expr} {es : List Expr} {t : TA} {p pos : Pos} (O : Own X.prog X.w X.K X.mg X.base k x ps sp) (hr : Room j X.A) (hk : k ≤ j) (hg : Gl X x) (ha : PA X (e :: es) t)
    (hdb : (x == ("__debug__" : Str)) = false := by decide) (he : starEach (e :: es) X.env = (false, eval e X.env) :: starEach es X.env := by rfl) (hpl : (backTo pos (starEach es X.env)).any (·.1) = false := by rfl) :
    PE X (.Call (.Name x p) (e :: es) [] pos) (tCall sp [] E0 t) := by
  obtain ⟨f, fd, F, m, kp, b⟩ := O.ex
  exact pe_call F (hr.mono hk) hg m kp b .nil pass0 ha hdb he hpl
abbrev FnP (K : PySem.W.Frag) (x : Str) (st : Stmt) (f : Addr) (fd : FuncData) : Prop := FunD K x x (defArgs st) (defBody st) (defScope st) [] [] f fd
theorem own_of {P : Program} {w : World} {K : PySem.W.Frag} {mg : Str → Option Value} {base : Heap} {k : Nat} {x : Str} {ps : List Str} {sp : Sp} {st : Stmt} {f : Addr} {fd : FuncData} (F : FnP K x st f fd) (m : mg x = some (.ref f)) (G : FnOk P w K mg base CX0 k f fd ps sp)
    (h : ∀ (kV doc pm : Value) (an : Option Addr) (cdv ct : Value) (us : List Value), us.length = ps.length → bindArgs (PySem.W.fnOf x x (defArgs st) (defBody st) (defScope st) .none kV doc pm an cdv ct) ⟨us, []⟩ = pure (ps.zip us)) : Own P w K mg base k x ps sp :=
  ⟨f, fd, G, m, F.kp, F.bindsN h⟩
theorem ev_ix {K : PySem.W.Frag} {σ : L2.St} {H : Hp} {b : Addr} {xs : List V} {i : Int} {v : V} {j : Nat} (hs : σ[j]? = some (some (.ref b))) (hb : H b = some (.lst xs)) (ha : atI xs i = some v) : Ev (tOp (rIxL K) (tVar j) (tC (.int i))) σ H v :=
  ev_op (ev_var hs) ev_c (rv_ixL (sq_of hb) ha)
theorem ev_ixt {K : PySem.W.Frag} {σ : L2.St} {H : Hp} {b : Addr} {xs : List V} {i : Int} {v : V} {j : Nat} (hs : σ[j]? = some (some (.ref b))) (hb : SqT K H b xs) (ha : atI xs i = some v) : Ev (tOp (rIxT K) (tVar j) (tC (.int i))) σ H v :=
  ev_op (ev_var hs) ev_c (rv_ixT hb ha)
theorem ite_T {c : Bool} {A B : Prop} (hc : c = true) (h : A) : if c = true then A else B := by
  rw [if_pos hc]
  exact h
theorem ite_F {c : Bool} {A B : Prop} (hc : c = false) (h : B) : if c = true then A else B := by
  rw [hc, if_neg Bool.false_ne_true]
  exact h
/-! ### the bag that draws -/
structure BagAt (H : Hp) (b l : Addr) (ns : List Int) (n : Nat) : Prop where
  ex : ∃ (i : Nat) (z s : Int) (c : Nat), H b = some (.lst [.ref l, .int i, .int z, .int s, .int c]) ∧ i ≤ ns.length ∧ 0 ≤ s ∧ s < 2147483647 ∧ c ≤ n
  ls : H l = some (.lst (ns.map V.int))
  ne : b ≠ l
/-- all but the object at b stays -/
def But (H H' : Hp) (b : Addr) : Prop := ∀ a o, H a = some o → a ≠ b → H' a = some o
theorem But.refl {H : Hp} {b : Addr} : But H H b := fun _ _ e _ => e
theorem But.trans {H H1 H2 : Hp} {b : Addr} (x : But H H1 b) (y : But H1 H2 b) : But H H2 b := fun a o e n => y a o (x a o e n) n
theorem But.ex {H H1 H2 : Hp} {b : Addr} (x : But H H1 b) (y : Ex H1 H2) : But H H2 b := fun a o e n => y a o (x a o e n)
theorem But.of {H H1 : Hp} {b : Addr} (y : Ex H H1) : But H H1 b := fun a o e _ => y a o e
theorem But.upd {H H1 : Hp} {b : Addr} {u : HO} (x : But H H1 b) : But H (upd H1 b u) b := fun a o e n => by
  rw [upd_ne n]
  exact x a o e n
theorem BagAt.ext {H H1 : Hp} {b l : Addr} {ns : List Int} {n m : Nat} (B : BagAt H b l ns n) (e : Ex H H1) (h : n ≤ m) : BagAt H1 b l ns m := by
  obtain ⟨⟨i, z, s, c, h1, h2, h3, h4, h5⟩, h6, h7⟩ := B
  exact ⟨⟨i, z, s, c, e _ _ h1, h2, h3, h4, Nat.le_trans h5 h⟩, e _ _ h6, h7⟩
def spPull : Sp := fun vs H Q _ => ∃ (b l : Addr) (ns : List Int) (n : Nat) (many : Int), vs = [.ref b, .int many] ∧ BagAt H b l ns n ∧ n < 1000000 ∧ 0 < many ∧ many < 2 ^ 200 ∧
  ∀ (v : Int) (H' : Hp), 0 ≤ v → v < many → BagAt H' b l ns (n + 1) → But H H' b → Q (.int v) H'
def spBag (K : PySem.W.Frag) : Sp := fun vs H Q _ => ∃ (a : Addr) (ns : List Int), vs = [.ref a] ∧ SqL K H a (ns.map V.int) ∧ ns.length ≤ 63 ∧
  ∀ (b l : Addr) (H' : Hp), H b = none → H l = none → BagAt H' b l ns 0 → Ex H H' → Q (.ref b) H'
end Hs
namespace Hs
open PySem
def top (i : Nat) : Stmt := PySem.Challenge.pw_hueshade_k01_sides_of_places.main.body.getD i (.Pass ⟨0, 0, 0, 0⟩)
end Hs
namespace Hs
open PySem PySem.Spec PyProof.Rows L2 Evl
section
variable {P : Program} {w : World} {K : PySem.W.Frag} {mg : Str → Option Value} {base : Heap} {f : Addr} {fd : FuncData}
abbrev sPull : Stmt := top 9
theorem scPull : FnScope ["_law_bag_here", "_law_many", "_law_cell", "_law_got", "_law_wider_here"] ["_law_bag_here", "_law_many"] (defScope sPull) := ⟨rfl, rfl, rfl, by decide +kernel, rfl, by decide +kernel, by decide +kernel⟩
theorem ok_pull (F : FnP K "_law_pull" sPull f fd) (g_len : mg "len" = none) : FnOk P w K mg base CX0 1 f fd ["_law_bag_here", "_law_many"] spPull := by
  have nd := scPull.nd
  refine F.ok scPull (fun vs H Q E h => ?_) (fun cdv A outer s H vs Q E hr h => ⟨_, PSs.nox (Evl.pss_cut (ps_if (PW.pt (pw_and (pt_cmpR op_eq (pe_ix (r := rIxL K) ix_list (pv 0) pe_int (fun _ _ => rfl)) pe_int (nomark _)) (pw_and1 (pt_cmpR op_lt (pe_ix (r := rIxL K) ix_list (pv 0) pe_int (fun _ _ => rfl)) (pe_callB (r := Evl.rLenS K) call_len_seq (by rfl) g_len PySem.boot_len (pa_cons (pe_ix (r := rIxL K) ix_list (pv 0) pe_int (fun _ _ => rfl)) pa_nil)) (nomark _))))) (pss_cons (ps_set (i := 2) nd rfl (.inl rfl) (pe_ix (r := rIxL K) ix_list (pe_ix (r := rIxL K) ix_list (pv 0) pe_int (fun _ _ => rfl)) (pe_ix (r := rIxL K) ix_list (pv 0) pe_int (fun _ _ => rfl)) (fun _ _ => rfl)))
  (pss_cons (ps_asg (pe_op op_add (pe_ix (r := rIxL K) ix_list (pv 0) pe_int (fun _ _ => rfl)) pe_int) (pg_sub (pv 0) pe_int set_list))
  (pss_one (ps_if (pt_cmpR op_ge (pv 2) (pe_op op_pow pe_int pe_int) (nomark _)) (pss_one (ps_asg (pv 2) (pg_sub (pv 0) pe_int set_list))) (pss_one (ps_asg (pe_op op_modN (pe_op op_add (pe_op op_add (pe_op op_mulW (pe_ix (r := rIxL K) ix_list (pv 0) pe_int (fun _ _ => rfl)) pe_int) (pe_op op_modN (pv 2) pe_int)) pe_int) pe_int) (pg_sub (pv 0) pe_int set_list))))))) pss_nil)
  (pss_cons (ps_if (pt_cmpR op_gt (pe_ix (r := rIxL K) ix_list (pv 0) pe_int (fun _ _ => rfl)) pe_int (nomark _)) (pss_cons (ps_set (i := 3) nd rfl (.inl rfl) (pe_op op_modN (pe_ix (r := rIxL K) ix_list (pv 0) pe_int (fun _ _ => rfl)) (pv 1)))
  (pss_cons (ps_asg (pe_op Hs.op_fdivG (pe_ix (r := rIxL K) ix_list (pv 0) pe_int (fun _ _ => rfl)) (pv 1)) (pg_sub (pv 0) pe_int set_list))
  (pss_one (ps_ret (pv 3))))) pss_nil)
  (pss_cons (ps_asg (pe_op op_add (pe_ix (r := rIxL K) ix_list (pv 0) pe_int (fun _ _ => rfl)) pe_int) (pg_sub (pv 0) pe_int set_list))
  (pss_cons (ps_set (i := 4) nd rfl (.inl rfl) (pe_op op_add (pe_op op_mulW (pe_ix (r := rIxL K) ix_list (pv 0) pe_int (fun _ _ => rfl)) (pe_ix (r := rIxL K) ix_list (pv 0) pe_int (fun _ _ => rfl))) (pe_op op_mulW (pe_op op_mulW pe_int (pe_ix (r := rIxL K) ix_list (pv 0) pe_int (fun _ _ => rfl))) (pe_op op_add (pe_op op_modN (pe_ix (r := rIxL K) ix_list (pv 0) pe_int (fun _ _ => rfl)) pe_int) pe_int))))
  (pss_cons (ps_asg (pe_op op_modN (pe_op op_add (pe_op op_add (pv 4) (pe_op op_mulW (pe_op op_mulW (pe_ix (r := rIxL K) ix_list (pv 0) pe_int (fun _ _ => rfl)) (pe_ix (r := rIxL K) ix_list (pv 0) pe_int (fun _ _ => rfl))) (pe_ix (r := rIxL K) ix_list (pv 0) pe_int (fun _ _ => rfl)))) pe_int) pe_int) (pg_sub (pv 0) pe_int set_list))
  (pss_one (ps_ret (pe_op op_modN (pe_op op_add (pe_op Hs.op_fdivG (pe_ix (r := rIxL K) ix_list (pv 0) pe_int (fun _ _ => rfl)) pe_int) (pe_op op_mulW (pe_op op_modN (pe_ix (r := rIxL K) ix_list (pv 0) pe_int (fun _ _ => rfl)) pe_int) pe_int)) (pv 1))))))))), ?_⟩)
  · obtain ⟨b, l, ns, n, many, rfl, _⟩ := h
    rfl
  · obtain ⟨b, l, ns, n, many, rfl, B, hn, hm, hm2, k⟩ := h
    obtain ⟨⟨i, z, s0, c, hb, hi, h0, h1, hc⟩, hl, ne⟩ := B
    refine q_cut (M := fun σ' H' => ∃ v2, σ' = [some (.ref b), some (.int many), v2, none, none] ∧ H' l = some (.lst (ns.map V.int)) ∧ But H H' b ∧ ∃ (i : Nat) (z s : Int), H' b = some (.lst [.ref l, .int i, .int z, .int s, .int c]) ∧ i ≤ ns.length ∧ 0 ≤ s ∧ s < 2147483647) ?_ ?_
    · refine s_when (et_and (et_test (ev_op (ev_ix rfl hb rfl) ev_c (rv_eq rfl))) fun _ => et_test (ev_op (ev_ix rfl hb rfl) (ev_len (ev_ix rfl hb rfl) (sq_of hl)) rv_I0)) (fun ht H1 e1 => ?_) (fun ht H1 e1 => ?_)
      · have hlt : (i : Int) < ((ns.map V.int).length : Int) := by
          rw [Bool.and_eq_true] at ht
          exact of_decide_eq_true ht.2
        rw [List.length_map] at hlt
        have hit : i < ns.length := by omega
        have hg : (ns.map V.int)[i]? = some (V.int ns[i]) := by
          rw [List.getElem?_map, List.getElem?_eq_getElem hit] <;> rfl
        refine q_asg (ev_op (ev_ix rfl (e1 _ _ hb) rfl) (ev_ix rfl (e1 _ _ hb) rfl) (rv_ixL (sq_of (e1 _ _ hl)) (atI_nat hg))) fun H2 e2 => ?_
        have e12 := e1.trans e2
        refine q_setL (j := 1) (e12 _ _ hb) (ev_op (ev_ix rfl (e12 _ _ hb) rfl) ev_c rv_I0) (ev_var rfl) ev_c (by simp) fun H3 e3 => ?_
        have hb3 : (upd H3 b (.lst [.ref l, .int ((i : Int) + 1), .int z, .int s0, .int c])) b = some (.lst [.ref l, .int ((i + 1 : Nat) : Int), .int z, .int s0, .int c]) := upd_same
        have hl3 : (upd H3 b (.lst [.ref l, .int ((i : Int) + 1), .int z, .int s0, .int c])) l = some (.lst (ns.map V.int)) := by
          rw [upd_ne (Ne.symm ne)]
          exact (e12.trans e3) _ _ hl
        have bt3 : But H (upd H3 b (.lst [.ref l, .int ((i : Int) + 1), .int z, .int s0, .int c])) b := But.upd (.of (e12.trans e3))
        refine s_if (et_test (ev_op (ev_var rfl) (ev_op ev_c ev_c (rv_I ⟨by decide, by decide, by decide⟩)) rv_I0)) (fun ht2 H4 e4 => ?_) (fun ht2 H4 e4 => ?_)
        · refine s_setL (j := 2) (e4 _ _ hb3) (ev_var rfl) (ev_var rfl) ev_c (by simp) fun H5 e5 => ?_
          refine ⟨_, rfl, ?_, But.upd ((bt3.ex e4).ex e5), i + 1, ns[i], s0, upd_same, hit, h0, h1⟩
          rw [upd_ne (Ne.symm ne)]
          exact (e4.trans e5) _ _ hl3
        · refine s_setL (j := 3) (e4 _ _ hb3) (ev_op (ev_op (ev_op (ev_op (ev_ix rfl (e4 _ _ hb3) rfl) ev_c (rv_I (mul64 (by omega) (by decide)))) (ev_op (ev_var rfl) ev_c (rv_I (show (2147483563 : Int) ≠ 0 by decide))) rv_I0) ev_c rv_I0) ev_c (rv_I (show (2147483629 : Int) ≠ 0 by decide))) (ev_var rfl) ev_c (by simp) fun H5 e5 => ?_
          have hp := modP (i := s0 * 40503 + (ns[i]).fmod 2147483563 + 1) (j := 2147483629) (by decide)
          refine ⟨_, rfl, ?_, But.upd ((bt3.ex e4).ex e5), i + 1, z, _, upd_same, hit, hp.1, by omega⟩
          rw [upd_ne (Ne.symm ne)]
          exact (e4.trans e5) _ _ hl3
      · exact ⟨none, rfl, e1 _ _ hl, .of e1, i, z, s0, e1 _ _ hb, hi, h0, h1⟩
    · rintro σ' H1 ⟨v2, rfl, hl1, bt1, i, z, s0, hb1, hi, h0, h1⟩
      refine q_when (et_test (ev_op (ev_ix rfl hb1 rfl) ev_c rv_I0)) (fun ht H2 e2 => ?_) (fun ht H2 e2 => ?_)
      · refine q_asg (ev_op (ev_ix rfl (e2 _ _ hb1) rfl) (ev_var rfl) (rv_I (show many ≠ 0 by omega))) fun H3 e3 => ?_
        have e23 := e2.trans e3
        refine q_setL (j := 2) (e23 _ _ hb1) (ev_op (ev_ix rfl (e23 _ _ hb1) rfl) (ev_var rfl) (rv_I (divG (b := 200) (by omega) (by omega) (by decide) (by decide)))) (ev_var rfl) ev_c (by simp) fun H4 e4 => ?_
        have hp := modP (i := z) (j := many) hm
        refine s_ret (ev_var rfl) fun H5 e5 => k _ _ hp.1 hp.2 ?_ ((But.upd (bt1.ex (e23.trans e4))).ex e5)
        refine BagAt.ext (n := n + 1) ⟨⟨i, _, s0, c, upd_same, hi, h0, h1, by omega⟩, ?_, ne⟩ e5 (Nat.le_refl _)
        rw [upd_ne (Ne.symm ne)]
        exact (e23.trans e4) _ _ hl1
      · refine q_setL (j := 4) (e2 _ _ hb1) (ev_op (ev_ix rfl (e2 _ _ hb1) rfl) ev_c rv_I0) (ev_var rfl) ev_c (by simp) fun H3 e3 => ?_
        have hb3 : (upd H3 b (.lst [.ref l, .int i, .int z, .int s0, .int ((c : Int) + 1)])) b = some (.lst [.ref l, .int i, .int z, .int s0, .int ((c : Int) + 1)]) := upd_same
        have hl3 : (upd H3 b (.lst [.ref l, .int i, .int z, .int s0, .int ((c : Int) + 1)])) l = some (.lst (ns.map V.int)) := by
          rw [upd_ne (Ne.symm ne)]
          exact (e2.trans e3) _ _ hl1
        have bt3 : But H (upd H3 b (.lst [.ref l, .int i, .int z, .int s0, .int ((c : Int) + 1)])) b := But.upd (bt1.ex (e2.trans e3))
        have hp1 := modP (i := s0) (j := 8191) (by decide)
        refine q_asg (ev_op (ev_op (ev_ix rfl hb3 rfl) (ev_ix rfl hb3 rfl) (rv_I (mul64 (by omega) (by omega)))) (ev_op (ev_op ev_c (ev_ix rfl hb3 rfl) (rv_I (mul64 (by decide) (by omega)))) (ev_op (ev_op (ev_ix rfl hb3 rfl) ev_c (rv_I (show (8191 : Int) ≠ 0 by decide))) ev_c rv_I0) (rv_I (mul64 (by omega) (by omega)))) rv_I0) fun H4 e4 => ?_
        have hcc : ((c : Int) + 1) * ((c : Int) + 1) ≤ 1000000 * 1000000 := Int.mul_le_mul (by omega) (by omega) (by omega) (by decide)
        have hcd : 0 ≤ ((c : Int) + 1) * ((c : Int) + 1) := Int.mul_nonneg (by omega) (by omega)
        refine q_setL (j := 3) (e4 _ _ hb3) (ev_op (ev_op (ev_op (ev_var rfl) (ev_op (ev_op (ev_ix rfl (e4 _ _ hb3) rfl) (ev_ix rfl (e4 _ _ hb3) rfl) (rv_I (mul64 (by omega) (by omega)))) (ev_ix rfl (e4 _ _ hb3) rfl) (rv_I (mul64 (by omega) (by omega)))) rv_I0) ev_c rv_I0) ev_c (rv_I (show (2147483629 : Int) ≠ 0 by decide))) (ev_var rfl) ev_c (by simp) fun H5 e5 => ?_
        generalize hs' : Int.fmod _ 2147483629 = s1
        have hs1 : 0 ≤ s1 ∧ s1 < 2147483629 := by
          rw [← hs']
          exact modP (by decide)
        have hp2 := modP (i := s1) (j := 7919) (by decide)
        refine s_ret (ev_op (ev_op (ev_op (ev_ix rfl upd_same rfl) ev_c (rv_I (divG (b := 64) (by decide) (by decide) (by decide) (by decide)))) (ev_op (ev_op (ev_ix rfl upd_same rfl) ev_c (rv_I (show (7919 : Int) ≠ 0 by decide))) ev_c (rv_I (mul64 (by omega) (by decide)))) rv_I0) (ev_var rfl) (rv_I (show many ≠ 0 by omega))) fun H6 e6 => ?_
        have hp := modP (i := s1.fdiv 71 + s1.fmod 7919 * 37) (j := many) hm
        refine k _ _ hp.1 hp.2 ?_ ((But.upd (bt3.ex (e4.trans e5))).ex e6)
        refine BagAt.ext (n := n + 1) ⟨⟨i, z, s1, c + 1, upd_same, hi, hs1.1, by omega, by omega⟩, ?_, ne⟩ e6 (Nat.le_refl _)
        rw [upd_ne (Ne.symm ne)]
        exact (e4.trans e5) _ _ hl3
end
end Hs
namespace Hs
open PySem PySem.Spec PyProof.Rows L2 Evl
theorem cut63 {xs : List V} (h : xs.length ≤ 63) : cutV xs none (some 63) = xs := by
  have e1 : HT.sIx xs.length 0 none = 0 := rfl
  have e2 : HT.sIx xs.length xs.length (some 63) = xs.length := by
    show min (63 : Int).toNat xs.length = xs.length
    omega
  unfold cutV
  rw [e1, e2, List.drop_zero, Nat.sub_zero, List.take_length]
section
variable {P : Program} {w : World} {K : PySem.W.Frag} {mg : Str → Option Value} {base : Heap} {f : Addr} {fd : FuncData}
abbrev sBag : Stmt := top 8
theorem scBag : FnScope ["_law_script", "_law_salt", "_law_cell"] ["_law_script"] (defScope sBag) := ⟨rfl, rfl, rfl, by decide +kernel, rfl, by decide +kernel, by decide +kernel⟩
theorem ok_bag (F : FnP K "_law_bag" sBag f fd) (g_len : mg "len" = none) (g_list : mg "list" = none) : FnOk P w K mg base CX0 1 f fd ["_law_script"] (spBag K) := by
  have nd := scBag.nd
  refine F.ok scBag (fun vs H Q E h => ?_) (fun cdv A outer s H vs Q E hr h => ⟨_, PSs.nox (pss_cons (ps_set (i := 1) nd rfl (.inl rfl) (pe_op op_add pe_int (pe_callB (r := Evl.rLenS K) call_len_seq (by rfl) g_len PySem.boot_len (pa_cons (pe_slice sl_list (pv 0) po_none (po_some pe_int)) pa_nil))))
  (pss_cons (ps_for PassesOwn.never rfl (pi_list (pe_slice sl_list (pv 0) po_none (po_some pe_int))) (pg_name (i := 2) nd rfl (.inl rfl)) (pss_one (ps_set (i := 1) nd rfl (.inl rfl) (pe_op op_modN (pe_op op_add (pe_op op_add (pe_op op_mulW (pv 1) pe_int) (pe_op op_modN (pv 2) pe_int)) pe_int) pe_int))))
  (pss_one (ps_ret (pe_lst (pa_cons (pe_callTy (r := Evl.rListS K) call_list_of (by rfl) g_list (by decide +kernel) (pa_cons (pe_slice sl_list (pv 0) po_none (po_some pe_int)) pa_nil)) (pa_cons pe_int (pa_cons pe_int (pa_cons (pv 1) (pa_cons pe_int pa_nil)))))))))), ?_⟩)
  · obtain ⟨a, ns, rfl, _⟩ := h
    rfl
  · obtain ⟨a, ns, rfl, hS, hl, k⟩ := h
    have hl2 : (ns.map V.int).length ≤ 63 := by rw [List.length_map]; exact hl
    have sl : ∀ {σ : L2.St} {H' : Hp}, σ[0]? = some (some (.ref a)) → Ex H H' → EvL (tSl (rSlL K) (tVar 0) tNoPart (tPart (tC (.int 63)))) σ H' (ns.map V.int) := fun {σ H'} h0 e => by
      have q := el_sl (K := K) (σ := σ) (H := H') (ev_var h0) eo_none (eo_some (i := 63) ev_c) (ex_l e hS)
      rw [cut63 hl2] at q
      exact q
    refine q_asg (ev_op ev_c (ev_lenN (sl rfl (Ex.refl H))) rv_I0) fun H1 e1 => ?_
    refine q_forNLn (sl rfl e1) (fun p i σ' H' => Ex H H' ∧ H' p = some (.lst (ns.map V.int)) ∧ ∃ (s0 : Int) (v : Option V), σ' = [some (.ref a), some (.int s0), v] ∧ 0 ≤ s0 ∧ s0 < 2147483647) ?_ ?_ ?_ ?_
    · intro p H2 hp e2 h2
      exact ⟨e1.trans e2, h2, _, none, rfl, by omega, by omega⟩
    · rintro p i σ' H' hi ⟨_, h, _⟩
      exact sq_of h
    · rintro p i x σ' H' hx ⟨e, h, s0, v, rfl, h0, h1⟩
      obtain ⟨z, rfl⟩ : ∃ z, x = V.int z := by
        rw [List.getElem?_map] at hx
        cases ez : ns[i]? with
        | none =>
          rw [ez] at hx
          cases hx
        | some z =>
          rw [ez] at hx
          exact ⟨z, (Option.some.inj hx).symm⟩
      refine s_asg (ev_op (ev_op (ev_op (ev_op (ev_var rfl) ev_c (rv_I (mul64 (by omega) (by decide)))) (ev_op (ev_var rfl) ev_c (rv_I (show (2147483629 : Int) ≠ 0 by decide))) rv_I0) ev_c rv_I0) ev_c (rv_I (show (2147483647 : Int) ≠ 0 by decide))) fun H2 e2 => ?_
      have hp := modP (i := s0 * 48271 + z.fmod 2147483629 + 7) (j := 2147483647) (by decide)
      exact ⟨e.trans e2, e2 _ _ h, _, _, rfl, hp.1, hp.2⟩
    · rintro p σ' H' ⟨e, h, s0, v, rfl, h0, h1⟩
      refine sl (σ := [some (.ref a), some (.int s0), v]) rfl e H' (Ex.refl _) _ fun q H2 hq e2 h2 => ⟨q, _, rfl, .inl (sq_of h2), fun l hl3 => ⟨_, rfl, sz_of (by simp), fun b hb3 => ?_⟩⟩
      have hne : l ≠ b := fun z => by
        rw [← z, upd_same] at hb3
        cases hb3
      have e3 : Ex H (upd H2 l (.lst (ns.map V.int))) := (e.trans e2).trans (Ex.new hl3)
      refine k b l _ (fresh_back e3 hb3) (fresh_back (e.trans e2) hl3) ⟨⟨0, 0, s0, 0, upd_same, Nat.zero_le _, h0, h1, Nat.le_refl _⟩, ?_, Ne.symm hne⟩ (e3.trans (Ex.new hb3))
      rw [upd_ne hne, upd_same]
end
end Hs
namespace Hs
open PySem PySem.Spec PyProof.Rows L2 Evl
/-! ### two data alike: the law's own comparison -/
def Sm (K : PySem.W.Frag) (H : Hp) : Nat → V → V → Prop
  | 0, _, _ => False
  | d + 1, u, v => (u = v ∧ flatV u = true) ∨ ∃ (a b : Addr) (xs ys : List V), u = .ref a ∧ v = .ref b ∧ ((SqL K H a xs ∧ SqL K H b ys) ∨ (SqT K H a xs ∧ SqT K H b ys)) ∧ xs.length = ys.length ∧ xs.length ≤ 1000 ∧
      ∀ (i : Nat) (x y : V), xs[i]? = some x → ys[i]? = some y → Sm K H d x y
theorem Sm.ext {K : PySem.W.Frag} {H H' : Hp} (e : Ex H H') : ∀ {d : Nat} {u v : V}, Sm K H d u v → Sm K H' d u v
  | 0, _, _, h => h.elim
  | d + 1, u, v, h => by
    rcases h with h | ⟨a, b, xs, ys, h1, h2, h3, h4, h5, h6⟩
    · exact .inl h
    · refine .inr ⟨a, b, xs, ys, h1, h2, ?_, h4, h5, fun i x y hx hy => Sm.ext e (h6 i x y hx hy)⟩
      rcases h3 with ⟨p, q⟩ | ⟨p, q⟩
      · exact .inl ⟨ex_l e p, ex_l e q⟩
      · exact .inr ⟨ex_t e p, ex_t e q⟩
def spSame (K : PySem.W.Frag) (d : Nat) : Sp := fun vs H Q _ => ∃ u v : V, vs = [u, v] ∧ Sm K H d u v ∧ RetV (.bl true) H Q
/-- of the built-in type t, whatever is new -/
def Ty (K : PySem.W.Frag) (H : Hp) (x : V) (t : String) : Prop := ∀ H1, Ex H H1 → TyX K H1 x (.type t)
theorem ty_l {K : PySem.W.Frag} {H : Hp} {a : Addr} {xs : List V} (h : SqL K H a xs) : Ty K H (.ref a) "list" := fun H1 e => by
  rcases ex_l e h with (h | ⟨o, h⟩) | ⟨o, its, n, h1, h2, _⟩
  · exact .base (.lst h)
  · exact .base (.frz h)
  · exact .kList h1 h2
theorem ty_t {K : PySem.W.Frag} {H : Hp} {a : Addr} {xs : List V} (h : SqT K H a xs) : Ty K H (.ref a) "tuple" := fun H1 e => by
  rcases ex_t e h with (h | ⟨o, h⟩) | ⟨o, its, n, h1, h2, _⟩
  · exact .base (.tup h)
  · exact .fTuple h
  · exact .kTuple h1 h2
theorem ty_bl {K : PySem.W.Frag} {H : Hp} {b : Bool} : Ty K H (.bl b) "bool" := fun _ _ => .base (.bl b)
theorem ty_int {K : PySem.W.Frag} {H : Hp} {b : Int} : Ty K H (.int b) "int" := fun _ _ => .base (.int b)
theorem ty_str {K : PySem.W.Frag} {H : Hp} {b : Str} : Ty K H (.str b) "str" := fun _ _ => .base (.str b)
theorem ev_isi {K : PySem.W.Frag} {σ : L2.St} {H : Hp} {te : TE} {x : V} {t c : String} {b : Bool} (h : Ev te σ H x) (ht : Ty K H x t) (hk : kitB t c = some b) : Ev (tCB (rIsi K) (tCons te (tCons (tC (.ty c)) tNil))) σ H (.bl b) := fun H1 e Q q =>
  h H1 e _ fun H2 e2 => ⟨x, .ty c, .type t, .type c, b, rfl, .ty c, ht H2 (e.trans e2), kit_ty hk, q H2 e2⟩
theorem ev_isi2 {K : PySem.W.Frag} {σ : L2.St} {H : Hp} {te : TE} {x : V} {t c c' : String} {b b' : Bool} (h : Ev te σ H x) (ht : Ty K H x t) (hk : kitB t c = some b) (hk' : kitB t c' = some b') :
    Ev (tCB (rIsiT K) (tCons te (tCons (tTup (tCons (tC (.ty c)) (tCons (tC (.ty c')) tNil))) tNil))) σ H (.bl (b || b')) := fun H1 e Q q =>
  h H1 e _ fun H2 e2 => ⟨sz_of (by simp), fun p hp => ⟨x, p, [.ty c, .ty c'], .type t, [.type c, .type c'], b || b', rfl, upd_same, .cons (.ty c) (.cons (.ty c') .nil), ht _ ((e.trans e2).trans (Ex.new hp)), by
    refine kitAny_cons (kit_ty hk) (fun hb => ?_) (fun hb => by rw [hb] <;> rfl)
    rw [hb, Bool.false_or]
    exact kitAny_cons (kit_ty hk') (fun hb' => by rw [hb']; exact kitAny_nil) (fun hb' => hb'), q _ (e2.trans (Ex.new hp))⟩⟩
theorem rv_ixQ {K : PySem.W.Frag} {H : Hp} {p : Addr} {xs : List V} {i : Int} {v : V} (h : SqL K H p xs ∨ SqT K H p xs) (ha : atI xs i = some v) : RV (rIx K) (.ref p) (.int i) H v := fun H1 e Q q => by
  rcases h with h | h
  · exact .inl (rv_ixL h ha H1 e Q q)
  · exact .inr (.inl (rv_ixT h ha H1 e Q q))
theorem ev_lenQ {K : PySem.W.Frag} {σ : L2.St} {H : Hp} {ta : TE} {p : Addr} {xs : List V} (ha : Ev ta σ H (.ref p)) (h : SqL K H p xs ∨ SqT K H p xs) : Ev (tCB (rLenS K) (tCons ta tNil)) σ H (.int (xs.length : Int)) := fun H1 e Q q =>
  ha H1 e _ fun H2 e2 => ⟨p, xs, rfl, h.imp (fun h => ex_l (e.trans e2) h) (fun h => ex_t (e.trans e2) h), q H2 e2⟩
theorem given_true (n : Nat) : given n (fun _ => true) (fun _ => V.bl true) = (List.replicate n true).map V.bl := by
  induction n with
  | zero => rfl
  | succ n ih =>
    rw [given_yes rfl, ih, List.replicate_succ', List.map_append] <;> rfl
theorem ev_allT {K : PySem.W.Frag} {σ : L2.St} {H : Hp} {te : TE} {n : Nat} (h : EvL te σ H (given n (fun _ => true) (fun _ => V.bl true))) : Ev (tCB (rAll K) (tCons te tNil)) σ H (.bl true) := fun H1 e Q q =>
  h H1 e _ fun p H2 _ e2 h2 => ⟨p, List.replicate n true, rfl, sq_of (by rw [h2, given_true]), by
    have e3 : (List.replicate n true).all id = true := by simp
    rw [e3]
    exact q H2 e2⟩
theorem kb_bool_bool : kitB "bool" "bool" = some true := by decide +kernel
theorem kb_bool_int : kitB "bool" "int" = some true := by decide +kernel
theorem kb_bool_str : kitB "bool" "str" = some false := by decide +kernel
theorem kb_bool_list : kitB "bool" "list" = some false := by decide +kernel
theorem kb_bool_tuple : kitB "bool" "tuple" = some false := by decide +kernel
theorem kb_int_bool : kitB "int" "bool" = some false := by decide +kernel
theorem kb_int_int : kitB "int" "int" = some true := by decide +kernel
theorem kb_int_str : kitB "int" "str" = some false := by decide +kernel
theorem kb_int_list : kitB "int" "list" = some false := by decide +kernel
theorem kb_int_tuple : kitB "int" "tuple" = some false := by decide +kernel
theorem kb_str_bool : kitB "str" "bool" = some false := by decide +kernel
theorem kb_str_int : kitB "str" "int" = some false := by decide +kernel
theorem kb_str_str : kitB "str" "str" = some true := by decide +kernel
theorem kb_str_list : kitB "str" "list" = some false := by decide +kernel
theorem kb_str_tuple : kitB "str" "tuple" = some false := by decide +kernel
theorem kb_list_bool : kitB "list" "bool" = some false := by decide +kernel
theorem kb_list_int : kitB "list" "int" = some false := by decide +kernel
theorem kb_list_str : kitB "list" "str" = some false := by decide +kernel
theorem kb_list_list : kitB "list" "list" = some true := by decide +kernel
theorem kb_list_tuple : kitB "list" "tuple" = some false := by decide +kernel
theorem kb_tuple_bool : kitB "tuple" "bool" = some false := by decide +kernel
theorem kb_tuple_int : kitB "tuple" "int" = some false := by decide +kernel
theorem kb_tuple_str : kitB "tuple" "str" = some false := by decide +kernel
theorem kb_tuple_list : kitB "tuple" "list" = some false := by decide +kernel
theorem kb_tuple_tuple : kitB "tuple" "tuple" = some true := by decide +kernel
section
variable {P : Program} {w : World} {K : PySem.W.Frag} {mg : Str → Option Value} {base : Heap} {f : Addr} {fd : FuncData}
abbrev sSame : Stmt := top 10
theorem scSame : FnScope ["_law_got", "_law_due", "_law_k"] ["_law_got", "_law_due"] (defScope sSame) := ⟨rfl, rfl, rfl, by decide +kernel, rfl, by decide +kernel, by decide +kernel⟩
theorem ok_same (F : FnP K "_law_same" sSame f fd) (m : mg "_law_same" = some (.ref f)) (g_len : mg "len" = none) (g_isinstance : mg "isinstance" = none) (g_bool : mg "bool" = none) (g_int : mg "int" = none) (g_str : mg "str" = none) (g_list : mg "list" = none) (g_tuple : mg "tuple" = none)
    (g_all : mg "all" = none) (g_range : mg "range" = none) : ∀ d, FnOk P w K mg base CX0 d f fd ["_law_got", "_law_due"] (spSame K d)
  | 0 => ⟨fun _ _ _ _ h => by
      obtain ⟨u, v, _, h, _⟩ := h
      exact h.elim, fun _ _ _ _ _ _ _ _ _ _ _ _ _ h => by
      obtain ⟨u, v, _, h, _⟩ := h
      exact h.elim⟩
  | d + 1 => by
    have O__law_same : Own P w K mg base d "_law_same" ["_law_got", "_law_due"] (spSame K d) := own_of F m (ok_same F m g_len g_isinstance g_bool g_int g_str g_list g_tuple g_all g_range d) fun _ _ _ _ _ _ us hl => match us, hl with | [_, _], _ => rfl
    have nd := scSame.nd
    refine F.ok scSame (fun vs H Q E h => ?_) (fun cdv A outer s H vs Q E hr h => ⟨_, PSs.nox (pss_cons (ps_if (PW.pt (pw_or (pt_cmpR op_isN (pv 1) pe_non (nomark _)) (pw_or1 (pt_cmpR op_isN (pv 0) pe_non (nomark _))))) (pss_one (ps_ret (pe_and (pe_cmpR op_isN (pv 1) pe_non (nomark _)) (pe_one (pe_cmpR op_isN (pv 0) pe_non (nomark _)))))) pss_nil)
  (pss_cons (ps_if (PW.pt (pw_or (pt_val (pe_callB (r := rIsi K) call_isi (by rfl) g_isinstance (by decide +kernel) (pa_cons (pv 1) (pa_cons (pe_bltn (v := .ty "bool") (by rfl) g_bool (by decide +kernel) rfl) pa_nil)))) (pw_or1 (pt_val (pe_callB (r := rIsi K) call_isi (by rfl) g_isinstance (by decide +kernel) (pa_cons (pv 0) (pa_cons (pe_bltn (v := .ty "bool") (by rfl) g_bool (by decide +kernel) rfl) pa_nil))))))) (pss_one (ps_ret (pe_and (pe_callB (r := rIsi K) call_isi (by rfl) g_isinstance (by decide +kernel) (pa_cons (pv 1) (pa_cons (pe_bltn (v := .ty "bool") (by rfl) g_bool (by decide +kernel) rfl) pa_nil))) (pe_and (pe_callB (r := rIsi K) call_isi (by rfl) g_isinstance (by decide +kernel) (pa_cons (pv 0) (pa_cons (pe_bltn (v := .ty "bool") (by rfl) g_bool (by decide +kernel) rfl) pa_nil))) (pe_one (pe_cmpR op_eq (pv 0) (pv 1) (nomark _))))))) pss_nil)
  (pss_cons (ps_if (pt_val (pe_callB (r := rIsiT K) call_isiT (by rfl) g_isinstance (by decide +kernel) (pa_cons (pv 1) (pa_cons (pe_tup (pa_cons (pe_bltn (v := .ty "int") (by rfl) g_int (by decide +kernel) rfl) (pa_cons (pe_bltn (v := .ty "str") (by rfl) g_str (by decide +kernel) rfl) pa_nil))) pa_nil)))) (pss_one (ps_ret (pe_and (pe_cmpR op_eq (pe_callB (r := rIsi K) call_isi (by rfl) g_isinstance (by decide +kernel) (pa_cons (pv 0) (pa_cons (pe_bltn (v := .ty "int") (by rfl) g_int (by decide +kernel) rfl) pa_nil))) (pe_callB (r := rIsi K) call_isi (by rfl) g_isinstance (by decide +kernel) (pa_cons (pv 1) (pa_cons (pe_bltn (v := .ty "int") (by rfl) g_int (by decide +kernel) rfl) pa_nil))) (nomark _)) (pe_one (pe_cmpR op_eq (pv 0) (pv 1) (nomark _)))))) pss_nil)
  (pss_cons (ps_if (PW.pt (pw_or (pt_cmpR op_ne (pe_callB (r := rIsi K) call_isi (by rfl) g_isinstance (by decide +kernel) (pa_cons (pv 1) (pa_cons (pe_bltn (v := .ty "list") (by rfl) g_list (by decide +kernel) rfl) pa_nil))) (pe_callB (r := rIsi K) call_isi (by rfl) g_isinstance (by decide +kernel) (pa_cons (pv 0) (pa_cons (pe_bltn (v := .ty "list") (by rfl) g_list (by decide +kernel) rfl) pa_nil))) (nomark _)) (pw_or1 (pt_cmpR op_ne (pe_callB (r := rIsi K) call_isi (by rfl) g_isinstance (by decide +kernel) (pa_cons (pv 1) (pa_cons (pe_bltn (v := .ty "tuple") (by rfl) g_tuple (by decide +kernel) rfl) pa_nil))) (pe_callB (r := rIsi K) call_isi (by rfl) g_isinstance (by decide +kernel) (pa_cons (pv 0) (pa_cons (pe_bltn (v := .ty "tuple") (by rfl) g_tuple (by decide +kernel) rfl) pa_nil))) (nomark _))))) (pss_one (ps_ret pe_bl)) pss_nil)
  (pss_one (ps_ret (pe_and (pe_cmpR op_eq (pe_callB (r := Evl.rLenS K) call_len_seq (by rfl) g_len PySem.boot_len (pa_cons (pv 0) pa_nil)) (pe_callB (r := Evl.rLenS K) call_len_seq (by rfl) g_len PySem.boot_len (pa_cons (pv 1) pa_nil)) (nomark _)) (pe_one (pe_callB (r := rAll K) (cr_all rfl) (by rfl) g_all (by decide +kernel) (pa_cons (pe_lc (own := [("_law_k", 2)]) rfl nd (pi_range1 (by rfl) g_range (pa_cons (pe_callB (r := Evl.rLenS K) call_len_seq (by rfl) g_len PySem.boot_len (pa_cons (pv 1) pa_nil)) pa_nil)) (blkOk_by (N := ["_law_got", "_law_due", "_law_k"]) (sc := defScope (Hs.top 10)) (by decide +kernel)) (fun _ _ _ _ _ => (pg_name (i := 2) nd rfl (Or.inl rfl))) (fun _ _ _ _ _ => pts_nil) (fun _ _ _ _ _ => (Hs.pe_own O__law_same hr (by first | decide | omega) (by rfl) (pa_cons (pe_ix (r := rIx K) ix_seq (pv 0) (pv 2) (fun _ _ => rfl)) (pa_cons (pe_ix (r := rIx K) ix_seq (pv 1) (pv 2) (fun _ _ => rfl)) pa_nil))))) pa_nil)))))))))), ?_⟩)
    · obtain ⟨u, v, rfl, _⟩ := h
      rfl
    · obtain ⟨u, v, rfl, h, k⟩ := h
      rcases h with ⟨rfl, hf⟩ | ⟨a, b, xs, ys, rfl, rfl, hq, hlen, hz, hi⟩
      · cases u with
        | non =>
          refine q_when (et_or (et_test (ev_op (ev_var rfl) ev_c (rv_val fun H1 _ Q q => ⟨rfl, q⟩))) (fun _ => et_test (ev_op (ev_var rfl) ev_c (rv_val fun H1 _ Q q => ⟨rfl, q⟩)))) (fun ht H1 e1 => ?_) (fun ht => by simp at ht)
          exact s_ret (ev_is (ev_andV (ev_op (ev_var rfl) ev_c (rv_val fun H1 _ Q q => ⟨rfl, q⟩)) (fun _ => ev_op (ev_var rfl) ev_c (rv_val fun H1 _ Q q => ⟨rfl, q⟩))) (by simp)) fun H2 e2 => k _ (e1.trans e2)
        | bl y =>
          refine q_when (b := false) (et_is (et_or (et_test (ev_op (ev_var rfl) ev_c (rv_val fun H1 _ Q q => ⟨rfl, q⟩))) (fun _ => et_test (ev_op (ev_var rfl) ev_c (rv_val fun H1 _ Q q => ⟨rfl, q⟩)))) (by simp)) (fun ht => Bool.noConfusion ht) (fun _ H1 e1 => ?_)
          refine q_when (b := true) (et_is (et_or (et_B (ev_isi (ev_var rfl) ty_bl kb_bool_bool)) (fun _ => et_B (ev_isi (ev_var rfl) ty_bl kb_bool_bool))) (by simp)) (fun _ H2 e2 => ?_) (fun ht => Bool.noConfusion ht)
          exact s_ret (ev_is (ev_andV (ev_isi (ev_var rfl) ty_bl kb_bool_bool) (fun _ => ev_andV (ev_isi (ev_var rfl) ty_bl kb_bool_bool) (fun _ => ev_op (ev_var rfl) (ev_var rfl) (rv_eq rfl)))) (by simp)) fun H3 e3 => k _ ((e1.trans e2).trans e3)
        | int i =>
          refine q_when (b := false) (et_is (et_or (et_test (ev_op (ev_var rfl) ev_c (rv_val fun H1 _ Q q => ⟨rfl, q⟩))) (fun _ => et_test (ev_op (ev_var rfl) ev_c (rv_val fun H1 _ Q q => ⟨rfl, q⟩)))) (by simp)) (fun ht => Bool.noConfusion ht) (fun _ H1 e1 => ?_)
          refine q_when (b := false) (et_is (et_or (et_B (ev_isi (ev_var rfl) ty_int kb_int_bool)) (fun _ => et_B (ev_isi (ev_var rfl) ty_int kb_int_bool))) (by simp)) (fun ht => Bool.noConfusion ht) (fun _ H2 e2 => ?_)
          refine q_when (b := true) (et_is (et_B (ev_isi2 (ev_var rfl) ty_int kb_int_int kb_int_str)) (by simp)) (fun _ H3 e3 => ?_) (fun ht => Bool.noConfusion ht)
          exact s_ret (ev_is (ev_andV (ev_op (ev_isi (ev_var rfl) ty_int kb_int_int) (ev_isi (ev_var rfl) ty_int kb_int_int) (rv_eq rfl)) (fun _ => ev_op (ev_var rfl) (ev_var rfl) (rv_eq rfl))) (by simp)) fun H4 e4 => k _ (((e1.trans e2).trans e3).trans e4)
        | str x =>
          refine q_when (b := false) (et_is (et_or (et_test (ev_op (ev_var rfl) ev_c (rv_val fun H1 _ Q q => ⟨rfl, q⟩))) (fun _ => et_test (ev_op (ev_var rfl) ev_c (rv_val fun H1 _ Q q => ⟨rfl, q⟩)))) (by simp)) (fun ht => Bool.noConfusion ht) (fun _ H1 e1 => ?_)
          refine q_when (b := false) (et_is (et_or (et_B (ev_isi (ev_var rfl) ty_str kb_str_bool)) (fun _ => et_B (ev_isi (ev_var rfl) ty_str kb_str_bool))) (by simp)) (fun ht => Bool.noConfusion ht) (fun _ H2 e2 => ?_)
          refine q_when (b := true) (et_is (et_B (ev_isi2 (ev_var rfl) ty_str kb_str_int kb_str_str)) (by simp)) (fun _ H3 e3 => ?_) (fun ht => Bool.noConfusion ht)
          exact s_ret (ev_is (ev_andV (ev_op (ev_isi (ev_var rfl) ty_str kb_str_int) (ev_isi (ev_var rfl) ty_str kb_str_int) (rv_eq rfl)) (fun _ => ev_op (ev_var rfl) (ev_var rfl) (rv_eq rfl))) (by simp)) fun H4 e4 => k _ (((e1.trans e2).trans e3).trans e4)
        | _ => cases hf
      · have ta : ∀ {H' : Hp}, Ex H H' → (Ty K H' (.ref a) "list" ∧ Ty K H' (.ref b) "list") ∨ (Ty K H' (.ref a) "tuple" ∧ Ty K H' (.ref b) "tuple") := fun {H'} e => by
          rcases hq with ⟨p, q⟩ | ⟨p, q⟩
          · exact .inl ⟨ty_l (ex_l e p), ty_l (ex_l e q)⟩
          · exact .inr ⟨ty_t (ex_t e p), ty_t (ex_t e q)⟩
        have qa : ∀ {H' : Hp}, Ex H H' → SqL K H' a xs ∨ SqT K H' a xs := fun {H'} e => hq.imp (fun h => ex_l e h.1) (fun h => ex_t e h.1)
        have qb : ∀ {H' : Hp}, Ex H H' → SqL K H' b ys ∨ SqT K H' b ys := fun {H'} e => hq.imp (fun h => ex_l e h.2) (fun h => ex_t e h.2)
        refine q_when (b := false) (et_is (et_or (et_test (ev_op (ev_var rfl) ev_c (rv_val fun H1 _ Q q => ⟨rfl, q⟩))) (fun _ => et_test (ev_op (ev_var rfl) ev_c (rv_val fun H1 _ Q q => ⟨rfl, q⟩)))) (by simp)) (fun ht => Bool.noConfusion ht) (fun _ H1 e1 => ?_)
        have t2 : ∀ {σ : L2.St} {H' : Hp}, σ[0]? = some (some (.ref a)) → σ[1]? = some (some (.ref b)) → Ex H H' → Ev (tCB (rIsi K) (tCons (tVar 1) (tCons (tC (.ty "bool")) tNil))) σ H' (.bl false) ∧ Ev (tCB (rIsi K) (tCons (tVar 0) (tCons (tC (.ty "bool")) tNil))) σ H' (.bl false) ∧
            Ev (tCB (rIsiT K) (tCons (tVar 1) (tCons (tTup (tCons (tC (.ty "int")) (tCons (tC (.ty "str")) tNil))) tNil))) σ H' (.bl false) ∧
            ∃ b1 b2, Ev (tCB (rIsi K) (tCons (tVar 1) (tCons (tC (.ty "list")) tNil))) σ H' (.bl b1) ∧ Ev (tCB (rIsi K) (tCons (tVar 0) (tCons (tC (.ty "list")) tNil))) σ H' (.bl b1) ∧ Ev (tCB (rIsi K) (tCons (tVar 1) (tCons (tC (.ty "tuple")) tNil))) σ H' (.bl b2) ∧ Ev (tCB (rIsi K) (tCons (tVar 0) (tCons (tC (.ty "tuple")) tNil))) σ H' (.bl b2) := fun {σ H'} h0 h1 e => by
          rcases ta e with ⟨p, q⟩ | ⟨p, q⟩
          · exact ⟨ev_isi (ev_var h1) q kb_list_bool, ev_isi (ev_var h0) p kb_list_bool, ev_isi2 (ev_var h1) q kb_list_int kb_list_str, true, false, ev_isi (ev_var h1) q kb_list_list, ev_isi (ev_var h0) p kb_list_list, ev_isi (ev_var h1) q kb_list_tuple, ev_isi (ev_var h0) p kb_list_tuple⟩
          · exact ⟨ev_isi (ev_var h1) q kb_tuple_bool, ev_isi (ev_var h0) p kb_tuple_bool, ev_isi2 (ev_var h1) q kb_tuple_int kb_tuple_str, false, true, ev_isi (ev_var h1) q kb_tuple_list, ev_isi (ev_var h0) p kb_tuple_list, ev_isi (ev_var h1) q kb_tuple_tuple, ev_isi (ev_var h0) p kb_tuple_tuple⟩
        obtain ⟨i1, i2, _⟩ := t2 (σ := [some (.ref a), some (.ref b), none]) rfl rfl e1
        refine q_when (b := false) (et_is (et_or (et_B i1) (fun _ => et_B i2)) (by simp)) (fun ht => Bool.noConfusion ht) (fun _ H2 e2 => ?_)
        obtain ⟨_, _, i3, _⟩ := t2 (σ := [some (.ref a), some (.ref b), none]) rfl rfl (e1.trans e2)
        refine q_when (b := false) (et_B i3) (fun ht => Bool.noConfusion ht) (fun _ H3 e3 => ?_)
        have e03 := (e1.trans e2).trans e3
        obtain ⟨_, _, _, b1, b2, j1, j2, j3, j4⟩ := t2 (σ := [some (.ref a), some (.ref b), none]) rfl rfl e03
        refine q_when (b := false) (et_is (et_or (et_test (ev_op j1 j2 (rv_ne rfl))) (fun _ => et_test (ev_op j3 j4 (rv_ne rfl)))) (by simp)) (fun ht => Bool.noConfusion ht) (fun _ H4 e4 => ?_)
        have e04 := e03.trans e4
        refine s_ret (ev_is (ev_andV (ev_op (ev_lenQ (ev_var rfl) (qa e04)) (ev_lenQ (ev_var rfl) (qb e04)) (rv_eq rfl)) (fun _ => ev_allT (n := ys.length) ?_)) (by simp [hlen])) fun H5 e5 => k _ (e04.trans e5)
        refine el_lcR1 (n := (ys.length : Int)) (fun _ => true) (fun _ => V.bl true) (ea_cons (ev_lenQ (ev_var rfl) (qb e04)) ea_nil) (by omega) (fun x => rfl) (fun i H6 e6 hi6 H7 e7 Q' q' => q' H7 (Ex.refl H7)) (fun i H6 e6 hi6 _ => ?_)
        have hiy : i < ys.length := by omega
        have hix : i < xs.length := by omega
        have gx : xs[i]? = some xs[i] := List.getElem?_eq_getElem hix
        have gy : ys[i]? = some ys[i] := List.getElem?_eq_getElem hiy
        have e06 := e04.trans e6
        exact ev_call (ea_cons (ev_op (ev_var rfl) (ev_var rfl) (rv_ixQ (qa e06) (atI_nat gx))) (ea_cons (ev_op (ev_var rfl) (ev_var rfl) (rv_ixQ (qb e06) (atI_nat gy))) ea_nil)) fun H7 e7 Q' q' E' => ⟨_, _, rfl, (hi i _ _ gx gy).ext (e06.trans e7), q'⟩
end
end Hs
namespace Hs
open PySem PySem.Spec PyProof.Rows L2 Evl
/-! ### numbers of bounded size -/
def Bd (n : Nat) (i : Int) : Prop := i.natAbs < 2 ^ n
theorem Bd.mono {n m : Nat} {i : Int} (h : Bd n i) (l : n ≤ m) : Bd m i := Nat.lt_of_lt_of_le h (Nat.pow_le_pow_right (by decide) l)
theorem Bd.sub {n : Nat} {i j : Int} (hi : Bd n i) (hj : Bd n j) : Bd (n + 1) (i - j) := by
  unfold Bd at *
  rw [Nat.pow_succ]
  generalize 2 ^ n = N at *
  omega
theorem Bd.add {n : Nat} {i j : Int} (hi : Bd n i) (hj : Bd n j) : Bd (n + 1) (i + j) := by
  unfold Bd at *
  rw [Nat.pow_succ]
  generalize 2 ^ n = N at *
  omega
theorem Bd.neg {n : Nat} {i : Int} (hi : Bd n i) : Bd n (-i) := by
  unfold Bd at *
  omega
theorem Bd.mul {n m : Nat} {i j : Int} (hi : Bd n i) (hj : Bd m j) : Bd (n + m) (i * j) := by
  unfold Bd at *
  rw [Int.natAbs_mul, Nat.pow_add]
  exact Nat.mul_lt_mul'' hi hj
theorem Bd.cmul {n m : Nat} {i j : Int} (hi : Bd n i) (hj : Bd m j) (h : n + m ≤ 90000 := by decide) : CMulW i j := wide_mul (hi.mono (Nat.le_succ _)) (hj.mono (Nat.le_succ _)) (Nat.succ_pos _) (Nat.succ_pos _) (by omega)
theorem Bd.of {n : Nat} {i : Int} (h : i.natAbs < 2 ^ n) : Bd n i := h
/-! ### places, pieces, blocks -/
abbrev Pt := Int × Int
def prV (x : Pt) : List V := [.int x.1, .int x.2]
def RetU (xs : List V) (H : Hp) (Q : VK) : Prop := ∀ p H2, H p = none → Ex H H2 → H2 p = some (.tup xs) → Q (.ref p) H2
theorem RetU.go {xs : List V} {H H' : Hp} {Q : VK} (k : RetU xs H Q) (e : Ex H H') {p : Addr} {H2 : Hp} (hp : H' p = none) (e2 : Ex H' H2) (h : H2 p = some (.tup xs)) : Q (.ref p) H2 := k p H2 (fresh_back e hp) (e.trans e2) h
/-- a place within 2 ^ n -/
def Pl (K : PySem.W.Frag) (n : Nat) (H : Hp) (p : Addr) (x : Pt) : Prop := SqT K H p (prV x) ∧ Bd n x.1 ∧ Bd n x.2
theorem Pl.ext {K : PySem.W.Frag} {n : Nat} {H H' : Hp} {p : Addr} {x : Pt} (h : Pl K n H p x) (e : Ex H H') : Pl K n H' p x := ⟨ex_t e h.1, h.2⟩
def Pc (K : PySem.W.Frag) (n : Nat) (H : Hp) (p : Addr) (x y : Pt) : Prop := ∃ a b, SqT K H p [.ref a, .ref b] ∧ Pl K n H a x ∧ Pl K n H b y
theorem Pc.ext {K : PySem.W.Frag} {n : Nat} {H H' : Hp} {p : Addr} {x y : Pt} (h : Pc K n H p x y) (e : Ex H H') : Pc K n H' p x y := by
  obtain ⟨a, b, h1, h2, h3⟩ := h
  exact ⟨a, b, ex_t e h1, h2.ext e, h3.ext e⟩
structure Blk where
  left : Int
  low : Int
  right : Int
  high : Int
def blV (b : Blk) : List V := [.int b.left, .int b.low, .int b.right, .int b.high]
def BdB (n : Nat) (b : Blk) : Prop := Bd n b.left ∧ Bd n b.low ∧ Bd n b.right ∧ Bd n b.high
def Bl (K : PySem.W.Frag) (n : Nat) (H : Hp) (p : Addr) (b : Blk) : Prop := SqT K H p (blV b) ∧ BdB n b
theorem Bl.ext {K : PySem.W.Frag} {n : Nat} {H H' : Hp} {p : Addr} {x : Blk} (h : Bl K n H p x) (e : Ex H H') : Bl K n H' p x := ⟨ex_t e h.1, h.2⟩
def cross (a b c : Pt) : Int := (b.1 - a.1) * (c.2 - a.2) - (b.2 - a.2) * (c.1 - a.1)
def sgn (i : Int) : Int := if 0 < i then 1 else if i < 0 then -1 else 0
def mn (i j : Int) : Int := if j < i then j else i
def mx (i j : Int) : Int := if j > i then j else i
theorem Bd.mn {n : Nat} {i j : Int} (hi : Bd n i) (hj : Bd n j) : Bd n (mn i j) := by
  unfold Hs.mn
  split
  · exact hj
  · exact hi
theorem Bd.mx {n : Nat} {i j : Int} (hi : Bd n i) (hj : Bd n j) : Bd n (mx i j) := by
  unfold Hs.mx
  split
  · exact hj
  · exact hi
def boxOf (a b : Pt) : Blk := ⟨mn a.1 b.1, mn a.2 b.2, mx a.1 b.1, mx a.2 b.2⟩
def hts (b : Blk) (x : Pt) : List Int := [x.1 - b.left, b.right - x.1, x.2 - b.low, b.high - x.2]
def phts (a b x : Pt) : List Int := cross a b x :: -cross a b x :: hts (boxOf a b) x
theorem box_bd {n : Nat} {a b : Pt} (ha : Bd n a.1 ∧ Bd n a.2) (hb : Bd n b.1 ∧ Bd n b.2) : BdB n (boxOf a b) := ⟨ha.1.mn hb.1, ha.2.mn hb.2, ha.1.mx hb.1, ha.2.mx hb.2⟩
theorem ev_x1 {K : PySem.W.Frag} {σ : L2.St} {H : Hp} {p : Addr} {x : Pt} {n j : Nat} (hs : σ[j]? = some (some (.ref p))) (h : Pl K n H p x) : Ev (tOp (rIxT K) (tVar j) (tC (.int 0))) σ H (.int x.1) := ev_ixt hs h.1 rfl
theorem ev_x2 {K : PySem.W.Frag} {σ : L2.St} {H : Hp} {p : Addr} {x : Pt} {n j : Nat} (hs : σ[j]? = some (some (.ref p))) (h : Pl K n H p x) : Ev (tOp (rIxT K) (tVar j) (tC (.int 1))) σ H (.int x.2) := ev_ixt hs h.1 rfl
theorem ev_min2 {σ : L2.St} {H : Hp} {ta tb : TE} {i j : Int} (ha : Ev ta σ H (.int i)) (hb : Ev tb σ H (.int j)) : Ev (tCB (fun xs H Q => ∃ i j, xs = [.int i, .int j] ∧ Q (.int (if j < i then j else i)) H) (tCons ta (tCons tb tNil))) σ H (.int (mn i j)) := ev_cb (ea_cons ha (ea_cons hb ea_nil)) fun H1 _ Q q => ⟨i, j, rfl, q H1 (Ex.refl H1)⟩
theorem ev_mx2 {σ : L2.St} {H : Hp} {ta tb : TE} {i j : Int} (ha : Ev ta σ H (.int i)) (hb : Ev tb σ H (.int j)) : Ev (tCB (fun xs H Q => ∃ i j, xs = [.int i, .int j] ∧ Q (.int (if j > i then j else i)) H) (tCons ta (tCons tb tNil))) σ H (.int (mx i j)) := ev_cb (ea_cons ha (ea_cons hb ea_nil)) fun H1 _ Q q => ⟨i, j, rfl, q H1 (Ex.refl H1)⟩
/-- calls, by their readings -/
theorem eu_call {σ : L2.St} {H : Hp} {sp : Sp} {dvs vs xs : List V} {E : XK} {ta : TA} (h : EvA ta σ H vs) (hs : ∀ H1, Ex H H1 → ∀ Q : VK, RetU xs H1 Q → ∀ E : XK, sp (vs ++ dvs) H1 Q E) : EvU (tCall sp dvs E ta) σ H xs := fun H1 e Q q =>
  h H1 e _ fun H2 e2 => hs H2 (e.trans e2) Q (fun p H3 hp e3 h3 => q p H3 (fresh_back e2 hp) (e2.trans e3) h3) E
end Hs
namespace Hs
open PySem PySem.Spec PyProof.Rows L2 Evl
/-! ### min of a tuple of numbers -/
def rMinT (K : PySem.W.Frag) : List V → Hp → VK → Prop := fun vs H Q => ∃ (a : Addr) (ns : List Int), vs = [V.ref a] ∧ SqT K H a (ns.map V.int) ∧ 0 < ns.length ∧ ∀ m, m ∈ ns → (∀ y, y ∈ ns → m ≤ y) → Q (.int m) H
theorem minOf_mem : ∀ (xs : List Int) (x : Int), PySem.W.minOf x xs ∈ x :: xs ∧ ∀ y ∈ x :: xs, PySem.W.minOf x xs ≤ y := by
  intro xs
  induction xs with
  | nil =>
    intro x
    exact ⟨List.mem_singleton.mpr rfl, fun y hy => by rw [List.mem_singleton.mp hy]; exact Int.le_refl _⟩
  | cons z zs ih =>
    intro x
    have e : PySem.W.minOf x (z :: zs) = PySem.W.minOf (if decide (z < x) = true then z else x) zs := rfl
    obtain ⟨h1, h2⟩ := ih (if decide (z < x) = true then z else x)
    rw [e]
    generalize PySem.W.minOf (if decide (z < x) = true then z else x) zs = m at h1 h2 ⊢
    have h3 := h2 _ (List.mem_cons_self ..)
    refine ⟨?_, fun y hy => ?_⟩
    · rcases List.mem_cons.mp h1 with q | q
      · rw [q]
        split
        · exact List.mem_cons_of_mem _ (List.mem_cons_self ..)
        · exact List.mem_cons_self ..
      · exact List.mem_cons_of_mem _ (List.mem_cons_of_mem _ q)
    · have h4 : m ≤ x ∧ m ≤ z := by
        split at h3
        · rename_i q
          have := of_decide_eq_true q
          omega
        · rename_i q
          have : ¬ z < x := fun w => q (decide_eq_true w)
          omega
      rcases List.mem_cons.mp hy with q | q
      · rw [q]
        exact h4.1
      · rcases List.mem_cons.mp q with q | q
        · rw [q]
          exact h4.2
        · exact h2 y (List.mem_cons_of_mem _ q)
theorem hold_ints {h : Heap} : ∀ {ns : List Int} {its : List Value}, Vals (ns.map V.int) its → PySem.W.HoldAll h its ns
  | [], _, r => by
    cases r
    exact .nil
  | n :: ns, _, r => by
    cases r with
    | cons r rr =>
      obtain ⟨t, rfl⟩ := r
      exact .cons (PySem.W.holds_int n t) (hold_ints rr)
theorem cr_minT {X : Cx} {k : Nat} (hc : X.calm = true) (hr : Room k X.A) : CallR X (.builtin "min") (rMinT X.K) := by
  intro pins s σ H vs us Q I r h
  obtain ⟨a, ns, rfl, hs, hne, q⟩ := h
  obtain ⟨its, rv, hl, _⟩ := I.tuple hs
  rw [Vals.ref1 r]
  cases ns with
  | nil => cases hne
  | cons x xs =>
    refine PySem.W.min_tuple_datum (x := x) (xs := xs) (I.ok.hd hc) (show s.heap.IsTuple a its.toArray from hl) (by simpa using hold_ints rv) ?_ fun i v h' tk hv hh hk => ?_
    · have := hr.un
      show X.A.units + 1 + 0 < _
      omega
    · obtain ⟨t, rfl⟩ := PySem.W.int_of_holds hh
      obtain ⟨m1, m2⟩ := minOf_mem xs x
      exact ⟨.int _, H, I.kept hk, ⟨_, rfl⟩, q _ m1 m2⟩
theorem rc_minT {K : PySem.W.Frag} {H : Hp} {a : Addr} {ns : List Int} (h : SqT K H a (ns.map V.int)) (hn : 0 < ns.length) : ∃ m, m ∈ ns ∧ (∀ y, y ∈ ns → m ≤ y) ∧ RC (rMinT K) [.ref a] H (.int m) := by
  cases ns with
  | nil => cases hn
  | cons x xs =>
    obtain ⟨m1, m2⟩ := minOf_mem xs x
    refine ⟨_, m1, m2, fun H1 e Q q => ⟨a, _, rfl, ex_t e h, hn, fun m h1 h2 => ?_⟩⟩
    have e : m = PySem.W.minOf x xs := Int.le_antisymm (h2 _ m1) (m2 _ h1)
    rw [e]
    exact q H1 (Ex.refl H1)
end Hs
namespace Hs
open PySem PySem.Spec PyProof.Rows L2 Evl
def spCross (K : PySem.W.Frag) (n : Nat) : Sp := fun vs H Q _ => ∃ p q r x y z, vs = [.ref p, .ref q, .ref r] ∧ Pl K n H p x ∧ Pl K n H q y ∧ Pl K n H r z ∧ RetV (.int (cross x y z)) H Q
def spSide (K : PySem.W.Frag) (n : Nat) : Sp := fun vs H Q _ => ∃ p q r x y z, vs = [.ref p, .ref q, .ref r] ∧ Pl K n H p x ∧ Pl K n H q y ∧ Pl K n H r z ∧ RetV (.int (sgn (cross x y z))) H Q
def spBox (K : PySem.W.Frag) (n : Nat) : Sp := fun vs H Q _ => ∃ p x y, vs = [.ref p] ∧ Pc K n H p x y ∧ RetU (blV (boxOf x y)) H Q
def spHts (K : PySem.W.Frag) (n : Nat) : Sp := fun vs H Q _ => ∃ p q b x, vs = [.ref p, .ref q] ∧ Bl K n H p b ∧ Pl K n H q x ∧ RetU ((hts b x).map V.int) H Q
def spPhts (K : PySem.W.Frag) (n : Nat) : Sp := fun vs H Q _ => ∃ p q a b x, vs = [.ref p, .ref q] ∧ Pc K n H p a b ∧ Pl K n H q x ∧ RetU ((phts a b x).map V.int) H Q
/-- whether x is a point of the piece from a to b -/
def OnP (a b x : Pt) : Prop := cross a b x = 0 ∧ mn a.1 b.1 ≤ x.1 ∧ x.1 ≤ mx a.1 b.1 ∧ mn a.2 b.2 ≤ x.2 ∧ x.2 ≤ mx a.2 b.2
instance (a b x : Pt) : Decidable (OnP a b x) := by
  unfold OnP
  infer_instance
theorem cmul {n : Nat} {x y z u : Int} (hn : n ≤ 10000) (h1 : Bd n x) (h2 : Bd n y) (h3 : Bd n z) (h4 : Bd n u) : CMulW (x - y) (z - u) := Bd.cmul (h1.sub h2) (h3.sub h4) (by omega)
section
variable {P : Program} {w : World} {K : PySem.W.Frag} {mg : Str → Option Value} {base : Heap} {f : Addr} {fd : FuncData} {n : Nat}
abbrev sLean : Stmt := top 1
theorem scLean : FnScope ["one", "other", "place", "across", "up"] ["one", "other", "place"] (defScope sLean) := ⟨rfl, rfl, rfl, by decide +kernel, rfl, by decide +kernel, by decide +kernel⟩
theorem ok_lean (F : FnP K "lean" sLean f fd) (hn : n ≤ 10000) : FnOk P w K mg base CX0 1 f fd ["one", "other", "place"] (spCross K n) := by
  have nd := scLean.nd
  refine F.ok scLean (fun vs H Q E h => ?_) (fun cdv A outer s H vs Q E hr h => ⟨_, PSs.nox (pss_cons (ps_set (i := 3) nd rfl (.inl rfl) (pe_op op_sub (pe_ix (r := rIxT K) ix_tup (pv 1) pe_int (fun _ _ => rfl)) (pe_ix (r := rIxT K) ix_tup (pv 0) pe_int (fun _ _ => rfl))))
  (pss_cons (ps_set (i := 4) nd rfl (.inl rfl) (pe_op op_sub (pe_ix (r := rIxT K) ix_tup (pv 1) pe_int (fun _ _ => rfl)) (pe_ix (r := rIxT K) ix_tup (pv 0) pe_int (fun _ _ => rfl))))
  (pss_one (ps_ret (pe_op op_sub (pe_op op_mulW (pv 3) (pe_op op_sub (pe_ix (r := rIxT K) ix_tup (pv 2) pe_int (fun _ _ => rfl)) (pe_ix (r := rIxT K) ix_tup (pv 0) pe_int (fun _ _ => rfl)))) (pe_op op_mulW (pv 4) (pe_op op_sub (pe_ix (r := rIxT K) ix_tup (pv 2) pe_int (fun _ _ => rfl)) (pe_ix (r := rIxT K) ix_tup (pv 0) pe_int (fun _ _ => rfl))))))))), ?_⟩)
  · obtain ⟨p, q, r, x, y, z, rfl, _⟩ := h
    rfl
  · obtain ⟨p, q, r, x, y, z, rfl, hx, hy, hz, k⟩ := h
    refine q_asg (ev_op (ev_x1 rfl hy) (ev_x1 rfl hx) rv_I0) fun H1 e1 => ?_
    refine q_asg (ev_op (ev_x2 rfl (hy.ext e1)) (ev_x2 rfl (hx.ext e1)) rv_I0) fun H2 e2 => ?_
    have e12 := e1.trans e2
    exact s_ret (ev_op (ev_op (ev_var rfl) (ev_op (ev_x2 rfl (hz.ext e12)) (ev_x2 rfl (hx.ext e12)) rv_I0) (rv_I (cmul hn hy.2.1 hx.2.1 hz.2.2 hx.2.2))) (ev_op (ev_var rfl) (ev_op (ev_x1 rfl (hz.ext e12)) (ev_x1 rfl (hx.ext e12)) rv_I0) (rv_I (cmul hn hy.2.2 hx.2.2 hz.2.1 hx.2.1))) rv_I0) fun H3 e3 => k _ (e12.trans e3)
abbrev sSide : Stmt := top 2
theorem scSide : FnScope ["one", "other", "place", "worth"] ["one", "other", "place"] (defScope sSide) := ⟨rfl, rfl, rfl, by decide +kernel, rfl, by decide +kernel, by decide +kernel⟩
theorem ok_side (F : FnP K "side" sSide f fd) (O_lean : Own P w K mg base 1 "lean" ["one", "other", "place"] (spCross K n)) : FnOk P w K mg base CX0 2 f fd ["one", "other", "place"] (spSide K n) := by
  have nd := scSide.nd
  refine F.ok scSide (fun vs H Q E h => ?_) (fun cdv A outer s H vs Q E hr h => ⟨_, PSs.nox (pss_cons (ps_set (i := 3) nd rfl (.inl rfl) (Hs.pe_own O_lean hr (by first | decide | omega) (by rfl) (pa_cons (pv 0) (pa_cons (pv 1) (pa_cons (pv 2) pa_nil)))))
  (pss_cons (ps_if (pt_cmpR op_gt (pv 3) pe_int (nomark _)) (pss_one (ps_ret pe_int)) pss_nil)
  (pss_cons (ps_if (pt_cmpR op_lt (pv 3) pe_int (nomark _)) (pss_one (ps_ret (pe_un un_neg pe_int))) pss_nil)
  (pss_one (ps_ret pe_int))))), ?_⟩)
  · obtain ⟨p, q, r, x, y, z, rfl, _⟩ := h
    rfl
  · obtain ⟨p, q, r, x, y, z, rfl, hx, hy, hz, k⟩ := h
    refine q_asg (ev_call (ea_cons (ev_var rfl) (ea_cons (ev_var rfl) (ea_cons (ev_var rfl) ea_nil))) fun H1 e1 Q' q' E' => ⟨p, q, r, x, y, z, rfl, hx.ext e1, hy.ext e1, hz.ext e1, q'⟩) fun H1 e1 => ?_
    unfold sgn at k
    refine q_when (et_test (ev_op (ev_var rfl) ev_c rv_I0)) (fun ht H2 e2 => ?_) (fun ht H2 e2 => ?_)
    · rw [if_pos (of_decide_eq_true ht)] at k
      exact s_ret ev_c fun H3 e3 => k _ ((e1.trans e2).trans e3)
    · rw [if_neg (of_decide_eq_false ht)] at k
      refine q_when (et_test (ev_op (ev_var rfl) ev_c rv_I0)) (fun ht H3 e3 => ?_) (fun ht H3 e3 => ?_)
      · rw [if_pos (of_decide_eq_true ht)] at k
        exact s_ret (ev_un ev_c ru_neg) fun H4 e4 => k _ (((e1.trans e2).trans e3).trans e4)
      · rw [if_neg (of_decide_eq_false ht)] at k
        exact s_ret ev_c fun H4 e4 => k _ (((e1.trans e2).trans e3).trans e4)
abbrev sBox : Stmt := top 3
theorem scBox : FnScope ["piece", "across", "up", "other_across", "other_up"] ["piece"] (defScope sBox) := ⟨rfl, rfl, rfl, by decide +kernel, rfl, by decide +kernel, by decide +kernel⟩
theorem ok_box (F : FnP K "box_around" sBox f fd) (g_min : mg "min" = none) (g_max : mg "max" = none) : FnOk P w K mg base CX0 1 f fd ["piece"] (spBox K n) := by
  have nd := scBox.nd
  refine F.ok scBox (fun vs H Q E h => ?_) (fun cdv A outer s H vs Q E hr h => ⟨_, PSs.nox (pss_cons (ps_asg (pv 0) (pg_tup rfl (pgs_cons (pg_tup rfl (pgs_cons (pg_name (i := 1) nd rfl (.inl rfl)) (pgs_cons (pg_name (i := 2) nd rfl (.inl rfl)) pgs_nil))) (pgs_cons (pg_tup rfl (pgs_cons (pg_name (i := 3) nd rfl (.inl rfl)) (pgs_cons (pg_name (i := 4) nd rfl (.inl rfl)) pgs_nil))) pgs_nil))))
  (pss_one (ps_ret (pe_tup (pa_cons (pe_callB (call_min2 rfl) (by rfl) g_min (by decide +kernel) (pa_cons (pv 1) (pa_cons (pv 3) pa_nil))) (pa_cons (pe_callB (call_min2 rfl) (by rfl) g_min (by decide +kernel) (pa_cons (pv 2) (pa_cons (pv 4) pa_nil))) (pa_cons (pe_callB (call_max2 rfl) (by rfl) g_max (by decide +kernel) (pa_cons (pv 1) (pa_cons (pv 3) pa_nil))) (pa_cons (pe_callB (call_max2 rfl) (by rfl) g_max (by decide +kernel) (pa_cons (pv 2) (pa_cons (pv 4) pa_nil))) pa_nil)))))))), ?_⟩)
  · obtain ⟨p, x, y, rfl, _⟩ := h
    rfl
  · obtain ⟨p, x, y, rfl, ⟨a, b, hp, hx, hy⟩, k⟩ := h
    refine ⟨_, rfl, p, _, rfl, hp, rfl, _, _, rfl, ⟨a, _, rfl, hx.1, rfl, _, _, rfl, _, _, rfl, rfl, _, _, rfl, b, _, rfl, hy.1, rfl, _, _, rfl, _, _, rfl, rfl, rfl, ?_⟩⟩
    exact s_retU (eu_tup (ea_cons (ev_min2 (ev_var rfl) (ev_var rfl)) (ea_cons (ev_min2 (ev_var rfl) (ev_var rfl)) (ea_cons (ev_mx2 (ev_var rfl) (ev_var rfl)) (ea_cons (ev_mx2 (ev_var rfl) (ev_var rfl)) ea_nil)))) (by simp)) fun p H3 hp e3 h3 => k p H3 hp e3 h3
abbrev sHts : Stmt := top 4
theorem scHts : FnScope ["block", "place", "left", "low", "right", "high", "across", "up"] ["block", "place"] (defScope sHts) := ⟨rfl, rfl, rfl, by decide +kernel, rfl, by decide +kernel, by decide +kernel⟩
theorem ok_hts (F : FnP K "block_heights" sHts f fd) : FnOk P w K mg base CX0 1 f fd ["block", "place"] (spHts K n) := by
  have nd := scHts.nd
  refine F.ok scHts (fun vs H Q E h => ?_) (fun cdv A outer s H vs Q E hr h => ⟨_, PSs.nox (pss_cons (ps_asg (pv 0) (pg_tup rfl (pgs_cons (pg_name (i := 2) nd rfl (.inl rfl)) (pgs_cons (pg_name (i := 3) nd rfl (.inl rfl)) (pgs_cons (pg_name (i := 4) nd rfl (.inl rfl)) (pgs_cons (pg_name (i := 5) nd rfl (.inl rfl)) pgs_nil))))))
  (pss_cons (ps_asg (pv 1) (pg_tup rfl (pgs_cons (pg_name (i := 6) nd rfl (.inl rfl)) (pgs_cons (pg_name (i := 7) nd rfl (.inl rfl)) pgs_nil))))
  (pss_one (ps_ret (pe_tup (pa_cons (pe_op op_sub (pv 6) (pv 2)) (pa_cons (pe_op op_sub (pv 4) (pv 6)) (pa_cons (pe_op op_sub (pv 7) (pv 3)) (pa_cons (pe_op op_sub (pv 5) (pv 7)) pa_nil))))))))), ?_⟩)
  · obtain ⟨p, q, b, x, rfl, _⟩ := h
    rfl
  · obtain ⟨p, q, b, x, rfl, hb, hx, k⟩ := h
    refine ⟨_, rfl, p, _, rfl, hb.1, rfl, _, _, rfl, _, _, rfl, _, _, rfl, _, _, rfl, rfl, _, rfl, q, _, rfl, hx.1, rfl, _, _, rfl, _, _, rfl, rfl, ?_⟩
    exact s_retU (eu_tup (ea_cons (ev_op (ev_var rfl) (ev_var rfl) rv_I0) (ea_cons (ev_op (ev_var rfl) (ev_var rfl) rv_I0) (ea_cons (ev_op (ev_var rfl) (ev_var rfl) rv_I0) (ea_cons (ev_op (ev_var rfl) (ev_var rfl) rv_I0) ea_nil)))) (by simp)) fun p H3 hp e3 h3 => k p H3 hp e3 h3
abbrev sPhts : Stmt := top 5
theorem scPhts : FnScope ["piece", "place", "worth"] ["piece", "place"] (defScope sPhts) := ⟨rfl, rfl, rfl, by decide +kernel, rfl, by decide +kernel, by decide +kernel⟩
theorem ok_phts (F : FnP K "piece_heights" sPhts f fd) (O_lean : Own P w K mg base 1 "lean" ["one", "other", "place"] (spCross K n)) (O_box_around : Own P w K mg base 1 "box_around" ["piece"] (spBox K n)) (O_block_heights : Own P w K mg base 1 "block_heights" ["block", "place"] (spHts K n)) :
    FnOk P w K mg base CX0 2 f fd ["piece", "place"] (spPhts K n) := by
  have nd := scPhts.nd
  refine F.ok scPhts (fun vs H Q E h => ?_) (fun cdv A outer s H vs Q E hr h => ⟨_, PSs.nox (pss_cons (ps_set (i := 2) nd rfl (.inl rfl) (Hs.pe_own O_lean hr (by first | decide | omega) (by rfl) (pa_cons (pe_ix (r := rIxT K) ix_tup (pv 0) pe_int (fun _ _ => rfl)) (pa_cons (pe_ix (r := rIxT K) ix_tup (pv 0) pe_int (fun _ _ => rfl)) (pa_cons (pv 1) pa_nil)))))
  (pss_one (ps_ret (pe_op (r := rCatT K) op_catT (pe_tup (pa_cons (pv 2) (pa_cons (pe_un un_neg (pv 2)) pa_nil))) (Hs.pe_own O_block_heights hr (by first | decide | omega) (by rfl) (pa_cons (Hs.pe_own O_box_around hr (by first | decide | omega) (by rfl) (pa_cons (pv 0) pa_nil)) (pa_cons (pv 1) pa_nil))))))), ?_⟩)
  · obtain ⟨p, q, a, b, x, rfl, _⟩ := h
    rfl
  · obtain ⟨p, q, a, b, x, rfl, hp, hx, k⟩ := h
    obtain ⟨pa, pb, hp1, ha, hb⟩ := id hp
    refine q_asg (v := .int (cross a b x)) (ev_call (ea_cons (ev_ixt (xs := [.ref pa, .ref pb]) rfl hp1 rfl) (ea_cons (ev_ixt (xs := [.ref pa, .ref pb]) rfl hp1 rfl) (ea_cons (ev_var rfl) ea_nil))) fun H1 e1 Q' q' E' => ⟨pa, pb, q, a, b, x, rfl, ha.ext e1, hb.ext e1, hx.ext e1, q'⟩) fun H1 e1 => ?_
    refine ⟨_, rfl, _, rfl, _, rfl, sz_of (by simp), fun t1 ht1 => ?_⟩
    have x1 := e1.trans (Ex.new (o := .tup [V.int (cross a b x), .int (-cross a b x)]) ht1)
    refine ⟨_, rfl, p, a, b, rfl, hp.ext x1, fun t2 H2 nt2 e2 ht2 => ⟨_, rfl, t2, q, boxOf a b, x, rfl, ⟨st_of ht2, box_bd ha.2 hb.2⟩, hx.ext (x1.trans e2), fun t3 H3 nt3 e3 ht3 => ?_⟩⟩
    have h3 := e3 _ _ (e2 _ _ (upd_same (H := H1) (a := t1) (o := .tup [V.int (cross a b x), .int (-cross a b x)])))
    refine ⟨t1, t3, _, _, rfl, rfl, st_of h3, st_of ht3, by simp, sz_of (by simp [hts]), fun z => by simp [hts] at z, fun _ t4 ht4 => ?_⟩
    have x3 := (x1.trans e2).trans e3
    exact k t4 _ (fresh_back x3 ht4) (x3.trans (Ex.new ht4)) upd_same
abbrev sOnp : Stmt := top 6
theorem scOnp : FnScope ["place", "piece"] ["place", "piece"] (defScope sOnp) := ⟨rfl, rfl, rfl, by decide +kernel, rfl, by decide +kernel, by decide +kernel⟩
def spOnp (K : PySem.W.Frag) (n : Nat) : Sp := fun vs H Q _ => ∃ p q a b x, vs = [.ref q, .ref p] ∧ Pc K n H p a b ∧ Pl K n H q x ∧ RetV (.bl (decide (OnP a b x))) H Q
theorem on_min {a b x : Pt} {m : Int} (h1 : m ∈ phts a b x) (h2 : ∀ y, y ∈ phts a b x → m ≤ y) : decide (m ≥ 0) = decide (OnP a b x) := by
  have e : m ≥ 0 ↔ OnP a b x := by
    constructor
    · intro h
      have q := fun y hy => Int.le_trans h (h2 y hy)
      have q1 := q (cross a b x) (by simp [phts])
      have q2 := q (-cross a b x) (by simp [phts])
      have q3 := q (x.1 - mn a.1 b.1) (by simp [phts, hts, boxOf])
      have q4 := q (mx a.1 b.1 - x.1) (by simp [phts, hts, boxOf])
      have q5 := q (x.2 - mn a.2 b.2) (by simp [phts, hts, boxOf])
      have q6 := q (mx a.2 b.2 - x.2) (by simp [phts, hts, boxOf])
      exact ⟨by omega, by omega, by omega, by omega, by omega⟩
    · rintro ⟨q1, q2, q3, q4, q5⟩
      simp only [phts, hts, boxOf, List.mem_cons, List.not_mem_nil, or_false] at h1
      omega
  exact decide_eq_decide.mpr e
theorem ok_onp (F : FnP K "on_piece" sOnp f fd) (O_piece_heights : Own P w K mg base 2 "piece_heights" ["piece", "place"] (spPhts K n)) (g_min : mg "min" = none) : FnOk P w K mg base CX0 3 f fd ["place", "piece"] (spOnp K n) := by
  have nd := scOnp.nd
  refine F.ok scOnp (fun vs H Q E h => ?_) (fun cdv A outer s H vs Q E hr h => ⟨_, PSs.nox (pss_one (ps_ret (pe_cmpR op_ge (pe_callB (r := Hs.rMinT K) (Hs.cr_minT rfl hr) (by rfl) g_min (by decide +kernel) (pa_cons (Hs.pe_own O_piece_heights hr (by first | decide | omega) (by rfl) (pa_cons (pv 1) (pa_cons (pv 0) pa_nil))) pa_nil)) pe_int (nomark _)))), ?_⟩)
  · obtain ⟨p, q, a, b, x, rfl, _⟩ := h
    rfl
  · obtain ⟨p, q, a, b, x, rfl, hp, hx, k⟩ := h
    refine ⟨_, rfl, _, rfl, p, q, a, b, x, rfl, hp, hx, fun t H1 nt e1 ht => ⟨t, _, rfl, st_of ht, by simp [phts], fun m h1 h2 => ⟨_, _, rfl, rfl, ?_⟩⟩⟩
    rw [← on_min h1 h2] at k
    exact k H1 e1
abbrev sCross : Stmt := top 11
theorem scCross : FnScope ["_law_a", "_law_b", "_law_c"] ["_law_a", "_law_b", "_law_c"] (defScope sCross) := ⟨rfl, rfl, rfl, by decide +kernel, rfl, by decide +kernel, by decide +kernel⟩
theorem ok_cross (F : FnP K "_law_cross" sCross f fd) (hn : n ≤ 10000) : FnOk P w K mg base CX0 1 f fd ["_law_a", "_law_b", "_law_c"] (spCross K n) := by
  have nd := scCross.nd
  refine F.ok scCross (fun vs H Q E h => ?_) (fun cdv A outer s H vs Q E hr h => ⟨_, PSs.nox (pss_one (ps_ret (pe_op op_sub (pe_op op_mulW (pe_op op_sub (pe_ix (r := rIxT K) ix_tup (pv 1) pe_int (fun _ _ => rfl)) (pe_ix (r := rIxT K) ix_tup (pv 0) pe_int (fun _ _ => rfl))) (pe_op op_sub (pe_ix (r := rIxT K) ix_tup (pv 2) pe_int (fun _ _ => rfl)) (pe_ix (r := rIxT K) ix_tup (pv 0) pe_int (fun _ _ => rfl)))) (pe_op op_mulW (pe_op op_sub (pe_ix (r := rIxT K) ix_tup (pv 1) pe_int (fun _ _ => rfl)) (pe_ix (r := rIxT K) ix_tup (pv 0) pe_int (fun _ _ => rfl))) (pe_op op_sub (pe_ix (r := rIxT K) ix_tup (pv 2) pe_int (fun _ _ => rfl)) (pe_ix (r := rIxT K) ix_tup (pv 0) pe_int (fun _ _ => rfl))))))), ?_⟩)
  · obtain ⟨p, q, r, x, y, z, rfl, _⟩ := h
    rfl
  · obtain ⟨p, q, r, x, y, z, rfl, hx, hy, hz, k⟩ := h
    exact s_ret (ev_op (ev_op (ev_op (ev_x1 rfl hy) (ev_x1 rfl hx) rv_I0) (ev_op (ev_x2 rfl hz) (ev_x2 rfl hx) rv_I0) (rv_I (cmul hn hy.2.1 hx.2.1 hz.2.2 hx.2.2))) (ev_op (ev_op (ev_x2 rfl hy) (ev_x2 rfl hx) rv_I0) (ev_op (ev_x1 rfl hz) (ev_x1 rfl hx) rv_I0) (rv_I (cmul hn hy.2.2 hx.2.2 hz.2.1 hx.2.1))) rv_I0) fun H3 e3 => k _ e3
abbrev sTouch : Stmt := top 12
theorem scTouch : FnScope ["_law_a", "_law_b", "_law_c"] ["_law_a", "_law_b", "_law_c"] (defScope sTouch) := ⟨rfl, rfl, rfl, by decide +kernel, rfl, by decide +kernel, by decide +kernel⟩
def spTouch (K : PySem.W.Frag) (n : Nat) : Sp := fun vs H Q _ => ∃ p q r x y z, vs = [.ref p, .ref q, .ref r] ∧ Pl K n H p x ∧ Pl K n H q y ∧ Pl K n H r z ∧ RetV (.bl (decide (OnP x y z))) H Q
theorem ev_chain {σ : L2.St} {H : Hp} {ta tb tc : TE} {i j k : Int} (ha : Ev ta σ H (.int i)) (hb : Ev tb σ H (.int j)) (hc : Ev tc σ H (.int k)) : Ev (tChain (rI0 fun i j => .bl (decide (i ≤ j))) (rI0 fun i j => .bl (decide (i ≤ j))) ta tb tc) σ H (.bl (decide (i ≤ j) && decide (j ≤ k))) := fun H1 e Q q => ha H1 e _ fun H2 e2 => hb H2 (e.trans e2) _ fun H3 e3 => ⟨i, j, rfl, rfl, decide (i ≤ j), rfl, by
  have e13 := e2.trans e3
  cases h : decide (i ≤ j) with
  | true =>
    rw [h, Bool.true_and] at q
    exact hc H3 (e.trans e13) _ fun H4 e4 => ⟨j, k, rfl, rfl, q H4 (e13.trans e4)⟩
  | false =>
    rw [h, Bool.false_and] at q
    exact q H3 e13⟩
theorem ok_touch (F : FnP K "_law_touch" sTouch f fd) (O__law_cross : Own P w K mg base 1 "_law_cross" ["_law_a", "_law_b", "_law_c"] (spCross K n)) (g_min : mg "min" = none) (g_max : mg "max" = none) : FnOk P w K mg base CX0 2 f fd ["_law_a", "_law_b", "_law_c"] (spTouch K n) := by
  have nd := scTouch.nd
  refine F.ok scTouch (fun vs H Q E h => ?_) (fun cdv A outer s H vs Q E hr h => ⟨_, PSs.nox (pss_cons (ps_if (pt_cmpR op_ne (Hs.pe_own O__law_cross hr (by first | decide | omega) (by rfl) (pa_cons (pv 0) (pa_cons (pv 1) (pa_cons (pv 2) pa_nil)))) pe_int (nomark _)) (pss_one (ps_ret pe_bl)) pss_nil)
  (pss_one (ps_ret (pe_and (pe_chain op_le op_le (pe_callB (call_min2 rfl) (by rfl) g_min (by decide +kernel) (pa_cons (pe_ix (r := rIxT K) ix_tup (pv 0) pe_int (fun _ _ => rfl)) (pa_cons (pe_ix (r := rIxT K) ix_tup (pv 1) pe_int (fun _ _ => rfl)) pa_nil))) (pe_ix (r := rIxT K) ix_tup (pv 2) pe_int (fun _ _ => rfl)) (pe_callB (call_max2 rfl) (by rfl) g_max (by decide +kernel) (pa_cons (pe_ix (r := rIxT K) ix_tup (pv 0) pe_int (fun _ _ => rfl)) (pa_cons (pe_ix (r := rIxT K) ix_tup (pv 1) pe_int (fun _ _ => rfl)) pa_nil)))) (pe_one (pe_chain op_le op_le (pe_callB (call_min2 rfl) (by rfl) g_min (by decide +kernel) (pa_cons (pe_ix (r := rIxT K) ix_tup (pv 0) pe_int (fun _ _ => rfl)) (pa_cons (pe_ix (r := rIxT K) ix_tup (pv 1) pe_int (fun _ _ => rfl)) pa_nil))) (pe_ix (r := rIxT K) ix_tup (pv 2) pe_int (fun _ _ => rfl)) (pe_callB (call_max2 rfl) (by rfl) g_max (by decide +kernel) (pa_cons (pe_ix (r := rIxT K) ix_tup (pv 0) pe_int (fun _ _ => rfl)) (pa_cons (pe_ix (r := rIxT K) ix_tup (pv 1) pe_int (fun _ _ => rfl)) pa_nil))))))))), ?_⟩)
  · obtain ⟨p, q, r, x, y, z, rfl, _⟩ := h
    rfl
  · obtain ⟨p, q, r, x, y, z, rfl, hx, hy, hz, k⟩ := h
    refine q_when (et_test (ev_op (ev_call (ea_cons (ev_var rfl) (ea_cons (ev_var rfl) (ea_cons (ev_var rfl) ea_nil))) fun H1 e1 Q' q' E' => ⟨p, q, r, x, y, z, rfl, hx.ext e1, hy.ext e1, hz.ext e1, q'⟩) ev_c (rv_ne rfl))) (fun ht H1 e1 => ?_) (fun ht H1 e1 => ?_)
    · have hc : ¬ cross x y z = 0 := fun e => by
        rw [e] at ht
        exact Bool.noConfusion ht
      rw [decide_eq_false (fun o : OnP x y z => hc o.1)] at k
      exact s_ret ev_c fun H2 e2 => k _ (e1.trans e2)
    · have hc : cross x y z = 0 := Decidable.byContradiction fun e => by
        rw [decide_eq_false (fun w => e (by injection w))] at ht
        exact Bool.noConfusion ht
      refine s_ret (ev_is (ev_andV (ev_chain (ev_min2 (ev_x1 rfl (hx.ext e1)) (ev_x1 rfl (hy.ext e1))) (ev_x1 rfl (hz.ext e1)) (ev_mx2 (ev_x1 rfl (hx.ext e1)) (ev_x1 rfl (hy.ext e1)))) (fun _ => ev_chain (ev_min2 (ev_x2 rfl (hx.ext e1)) (ev_x2 rfl (hy.ext e1))) (ev_x2 rfl (hz.ext e1)) (ev_mx2 (ev_x2 rfl (hx.ext e1)) (ev_x2 rfl (hy.ext e1))))) ?_) fun H2 e2 => k _ (e1.trans e2)
      congr 1
      rw [Bool.eq_iff_iff]
      simp only [Bool.and_eq_true, decide_eq_true_eq, OnP, hc, true_and, and_assoc]
end
end Hs
namespace Hs
open PySem PySem.Spec PyProof.Rows L2 Evl
/-! ### what is drawn: a grid, places on it -/
theorem bag_ne {H : Hp} {b l p : Addr} {ns : List Int} {n : Nat} (B : BagAt H b l ns n) (hp : H p = none) : p ≠ b := fun z => by
  obtain ⟨i, y, s, c, h, _⟩ := B.ex
  rw [← z, hp] at h
  cases h
theorem bag_lst {H : Hp} {b l : Addr} {ns : List Int} {n : Nat} (B : BagAt H b l ns n) : ∃ xs, H b = some (.lst xs) := by
  obtain ⟨⟨i, z, s, c, h1, _⟩, _⟩ := B
  exact ⟨_, h1⟩
theorem bag_upd {H : Hp} {b l a : Addr} {ns : List Int} {n : Nat} {o : HO} (B : BagAt H b l ns n) (h1 : b ≠ a) (h2 : l ≠ a) : BagAt (upd H a o) b l ns n := by
  obtain ⟨⟨i, z, s, c, q1, q2, q3, q4, q5⟩, q6, q7⟩ := B
  exact ⟨⟨i, z, s, c, by rw [upd_ne h1]; exact q1, q2, q3, q4, q5⟩, by rw [upd_ne h2]; exact q6, q7⟩
theorem But.fresh {H H' : Hp} {b l p : Addr} {ns : List Int} {n : Nat} (k : But H H' b) (B : BagAt H' b l ns n) (hp : H' p = none) : H p = none := by
  cases h : H p with
  | none => rfl
  | some o =>
    have := k p o h (bag_ne B hp)
    rw [hp] at this
    cases this
theorem But.tup {H H' : Hp} {b l p : Addr} {ns : List Int} {n : Nat} {xs : List V} (k : But H H' b) (B : BagAt H b l ns n) (h : H p = some (.tup xs)) : H' p = some (.tup xs) := by
  obtain ⟨ys, hb⟩ := bag_lst B
  refine k _ _ h fun z => ?_
  rw [z, hb] at h
  cases h
def Grid (w x y : Int) : Prop := (1 ≤ w ∧ w ≤ 60) ∧ x.natAbs + w.natAbs ≤ 1000000 ∧ y.natAbs + w.natAbs ≤ 1000000
def spGrid : Sp := fun vs H Q _ => ∃ (b l : Addr) (ns : List Int) (n : Nat), vs = [.ref b] ∧ BagAt H b l ns n ∧ n < 900000 ∧ ∀ (p : Addr) (w x y : Int) (H' : Hp), Grid w x y → H p = none → H' p = some (.tup [.int w, .int x, .int y]) → BagAt H' b l ns (n + 3) → But H H' b → Q (.ref p) H'
def Near (z : Pt) : Prop := z.1.natAbs ≤ 1000000 ∧ z.2.natAbs ≤ 1000000
def spSpot : Sp := fun vs H Q _ => ∃ (b l g : Addr) (ns : List Int) (n : Nat) (w x y : Int), vs = [.ref b, .ref g] ∧ BagAt H b l ns n ∧ n < 900000 ∧ H g = some (.tup [.int w, .int x, .int y]) ∧ Grid w x y ∧
  ∀ (p : Addr) (z : Pt) (H' : Hp), Near z → H p = none → H' p = some (.tup (prV z)) → BagAt H' b l ns (n + 2) → But H H' b → Q (.ref p) H'
section
variable {P : Program} {w : World} {K : PySem.W.Frag} {mg : Str → Option Value} {base : Heap} {f : Addr} {fd : FuncData}
abbrev sGrid : Stmt := top 14
theorem scGrid : FnScope ["_law_bag_here", "_law_way"] ["_law_bag_here"] (defScope sGrid) := ⟨rfl, rfl, rfl, by decide +kernel, rfl, by decide +kernel, by decide +kernel⟩
theorem ok_grid (F : FnP K "_law_grid" sGrid f fd) (O__law_pull : Own P w K mg base 1 "_law_pull" ["_law_bag_here", "_law_many"] spPull) : FnOk P w K mg base CX0 2 f fd ["_law_bag_here"] spGrid := by
  have nd := scGrid.nd
  refine F.ok scGrid (fun vs H Q E h => ?_) (fun cdv A outer s H vs Q E hr h => ⟨_, PSs.nox (pss_cons (ps_set (i := 1) nd rfl (.inl rfl) (Hs.pe_own O__law_pull hr (by first | decide | omega) (by rfl) (pa_cons (pv 0) (pa_cons pe_int pa_nil))))
  (pss_cons (ps_if (pt_cmpR op_lt (pv 1) pe_int (nomark _)) (pss_one (ps_ret (pe_tup (pa_cons pe_int (pa_cons pe_int (pa_cons pe_int pa_nil)))))) pss_nil)
  (pss_cons (ps_if (pt_cmpR op_eq (pv 1) pe_int (nomark _)) (pss_one (ps_ret (pe_tup (pa_cons (pe_op op_add pe_int (Hs.pe_own O__law_pull hr (by first | decide | omega) (by rfl) (pa_cons (pv 0) (pa_cons pe_int pa_nil)))) (pa_cons pe_int (pa_cons pe_int pa_nil)))))) pss_nil)
  (pss_one (ps_ret (pe_tup (pa_cons pe_int (pa_cons (pe_op op_mulW (pe_op op_sub (pe_op op_pow pe_int pe_int) pe_int) (pe_op op_sub (pe_op op_mulW pe_int (Hs.pe_own O__law_pull hr (by first | decide | omega) (by rfl) (pa_cons (pv 0) (pa_cons pe_int pa_nil)))) pe_int)) (pa_cons (pe_op op_mulW (pe_op op_sub (pe_op op_pow pe_int pe_int) pe_int) (pe_op op_sub (Hs.pe_own O__law_pull hr (by first | decide | omega) (by rfl) (pa_cons (pv 0) (pa_cons pe_int pa_nil))) pe_int)) pa_nil))))))))), ?_⟩)
  · obtain ⟨b, l, ns, n, rfl, _⟩ := h
    rfl
  · obtain ⟨b, l, ns, n, rfl, B, hn, k⟩ := h
    refine ⟨_, rfl, b, l, ns, n, 6, rfl, B, by omega, by decide, by decide, fun v H1 v0 v1 B1 b1 => ?_⟩
    refine q_when (et_test (ev_op (ev_var rfl) ev_c rv_I0)) (fun ht H2 e2 => ?_) (fun ht H2 e2 => ?_)
    · exact s_retU (eu_tup (ea_cons ev_c (ea_cons ev_c (ea_cons ev_c ea_nil))) (by simp)) fun p H3 hp e3 h3 => k p 4 0 0 H3 ⟨by decide, by decide, by decide⟩ (b1.fresh B1 (fresh_back e2 hp)) h3 (B1.ext (e2.trans e3) (by omega)) (b1.ex (e2.trans e3))
    · refine q_when (et_test (ev_op (ev_var rfl) ev_c (rv_eq rfl))) (fun ht H3 e3 => ?_) (fun ht H3 e3 => ?_)
      · have e23 := e2.trans e3
        refine ⟨_, rfl, b, l, ns, n + 1, 60, rfl, B1.ext e23 (Nat.le_refl _), by omega, by decide, by decide, fun v2 H4 v20 v21 B4 b4 => ⟨_, _, rfl, rfl, sz_of (by simp), fun p hp => ?_⟩⟩
        have b14 := (b1.ex e23).trans b4
        exact k p _ _ _ _ ⟨⟨by omega, by omega⟩, by omega, by omega⟩ (b14.fresh B4 hp) upd_same (B4.ext (Ex.new hp) (by omega)) (b14.ex (Ex.new hp))
      · have e23 := e2.trans e3
        refine ⟨_, _, rfl, rfl, ⟨by decide, by decide, by decide⟩, _, _, rfl, rfl, _, rfl, b, l, ns, n + 1, 2, rfl, B1.ext e23 (Nat.le_refl _), by omega, by decide, by decide, fun v2 H4 v20 v21 B4 b4 => ⟨_, _, rfl, rfl, mul64 (by decide) (by omega), _, _, rfl, rfl, _, _, rfl, rfl, mul64 (by decide) (by omega), ?_⟩⟩
        refine ⟨_, _, rfl, rfl, ⟨by decide, by decide, by decide⟩, _, _, rfl, rfl, _, rfl, b, l, ns, n + 2, 3, rfl, B4, by omega, by decide, by decide, fun v3 H5 v30 v31 B5 b5 => ⟨_, _, rfl, rfl, _, _, rfl, rfl, mul64 (by decide) (by omega), sz_of (by simp), fun p hp => ?_⟩⟩
        have b15 := ((b1.ex e23).trans b4).trans b5
        have t6 : (10 : Int) ^ Int.toNat 6 = 1000000 := by decide
        exact k p _ _ _ _ ⟨⟨by omega, by omega⟩, by rw [t6]; omega, by rw [t6]; omega⟩ (b15.fresh B5 hp) upd_same (B5.ext (Ex.new hp) (by omega)) (b15.ex (Ex.new hp))
abbrev sSpot : Stmt := top 15
theorem scSpot : FnScope ["_law_bag_here", "_law_grid_here", "_law_wide", "_law_across", "_law_north", "_law_first"] ["_law_bag_here", "_law_grid_here"] (defScope sSpot) := ⟨rfl, rfl, rfl, by decide +kernel, rfl, by decide +kernel, by decide +kernel⟩
theorem ok_spot (F : FnP K "_law_spot" sSpot f fd) (O__law_pull : Own P w K mg base 1 "_law_pull" ["_law_bag_here", "_law_many"] spPull) : FnOk P w K mg base CX0 2 f fd ["_law_bag_here", "_law_grid_here"] spSpot := by
  have nd := scSpot.nd
  refine F.ok scSpot (fun vs H Q E h => ?_) (fun cdv A outer s H vs Q E hr h => ⟨_, PSs.nox (pss_cons (ps_asg (pv 1) (pg_tup rfl (pgs_cons (pg_name (i := 2) nd rfl (.inl rfl)) (pgs_cons (pg_name (i := 3) nd rfl (.inl rfl)) (pgs_cons (pg_name (i := 4) nd rfl (.inl rfl)) pgs_nil)))))
  (pss_cons (ps_set (i := 5) nd rfl (.inl rfl) (pe_op op_sub (pe_op op_add (pv 3) (Hs.pe_own O__law_pull hr (by first | decide | omega) (by rfl) (pa_cons (pv 0) (pa_cons (pe_op op_add (pe_op op_mulW pe_int (pv 2)) pe_int) pa_nil)))) (pv 2)))
  (pss_one (ps_ret (pe_tup (pa_cons (pv 5) (pa_cons (pe_op op_sub (pe_op op_add (pv 4) (Hs.pe_own O__law_pull hr (by first | decide | omega) (by rfl) (pa_cons (pv 0) (pa_cons (pe_op op_add (pe_op op_mulW pe_int (pv 2)) pe_int) pa_nil)))) (pv 2)) pa_nil))))))), ?_⟩)
  · obtain ⟨b, l, g, ns, n, w, x, y, rfl, _⟩ := h
    rfl
  · obtain ⟨b, l, g, ns, n, w, x, y, rfl, B, hn, hg, G, k⟩ := h
    obtain ⟨⟨w0, w1⟩, gx, gy⟩ := G
    refine ⟨_, rfl, g, _, rfl, st_of hg, rfl, _, _, rfl, _, _, rfl, _, _, rfl, rfl, ?_⟩
    show tSeq _ _ _ [some (.ref b), some (.ref g), some (.int w), some (.int x), some (.int y), none] H
    refine ⟨_, rfl, _, rfl, _, rfl, _, _, rfl, rfl, mul64 (by decide) (by omega), _, _, rfl, rfl, b, l, ns, n, _, rfl, B, by omega, by omega, by omega, fun v H1 v0 v1 B1 b1 => ⟨_, _, rfl, rfl, _, rfl, _, _, rfl, rfl, ?_⟩⟩
    refine ⟨_, rfl, _, rfl, _, rfl, _, rfl, _, _, rfl, rfl, mul64 (by decide) (by omega), _, _, rfl, rfl, b, l, ns, n + 1, _, rfl, B1, by omega, by omega, by omega, fun v2 H2 v20 v21 B2 b2 => ⟨_, _, rfl, rfl, _, rfl, _, _, rfl, rfl, sz_of (by simp), fun p hp => ?_⟩⟩
    have b12 := b1.trans b2
    refine k p (x + v - w, y + v2 - w) _ ⟨?_, ?_⟩ (b12.fresh B2 hp) upd_same (B2.ext (Ex.new hp) (by omega)) (b12.ex (Ex.new hp))
    · show (x + v - w).natAbs ≤ _
      omega
    · show (y + v2 - w).natAbs ≤ _
      omega
end
/-- places that stand -/
def Pts (H : Hp) (ps : List Addr) (zs : List Pt) : Prop := ps.length = zs.length ∧ ∀ (i : Nat) (p : Addr) (z : Pt), ps[i]? = some p → zs[i]? = some z → H p = some (.tup (prV z)) ∧ Near z
theorem lc_spots {m j ib ig n : Nat} {vs : List Nat} {σ : L2.St} {H : Hp} {Q : VK} {b l g : Addr} {ns : List Int} {w x y : Int} {E : XK} (hw : ∀ v, wipe ((wipe σ vs).set j (some v)) vs = wipe σ vs) (h1 : ∀ v, ((wipe σ vs).set j (some v))[ib]? = some (some (.ref b))) (h2 : ∀ v, ((wipe σ vs).set j (some v))[ig]? = some (some (.ref g)))
    (B : BagAt H b l ns n) (hn : n + 2 * m < 900000) (hm : m ≤ 1000) (hg : H g = some (.tup [.int w, .int x, .int y])) (G : Grid w x y)
    (k : ∀ (Dl : Addr) (ps : List Addr) (zs : List Pt) (H' : Hp), H Dl = none → H' Dl = some (.lst (ps.map V.ref)) → ps.length = m → Pts H' ps zs → BagAt H' b l ns (n + 2 * m) → But H H' b → Q (.ref Dl) H') :
    tLc (iRng1 (tCons (tC (.int m)) tNil)) (gName j) tYes (tCall spSpot [] E (tCons (tVar ib) (tCons (tVar ig) tNil))) vs σ H Q := by
  refine ⟨m, rfl, by omega, by omega, fun Dl hD => ?_⟩
  have nDb := bag_ne B hD
  have nDl : Dl ≠ l := Ne.symm (ne_of_none B.ls hD)
  refine lc_range (lo := 0) (n := (m : Int).toNat) (fun i H' => BagAt H' b l ns (n + 2 * i) ∧ But H H' b ∧ ∃ (ps : List Addr) (zs : List Pt), H' Dl = some (.lst (ps.map V.ref)) ∧ ps.length = i ∧ Pts H' ps zs) ⟨B.ext (Ex.new hD) (by omega), But.of (Ex.new hD), [], [], upd_same, rfl, rfl, fun i p x h => by cases h⟩ (fun i H' hi p => ⟨hw _, ?_⟩) (fun H' p => ?_)
  · obtain ⟨Bi, bi, ps, zs, hDl, hlen, hLl, hL⟩ := p
    have hi2 : i < m := by omega
    refine ⟨_, h1 _, _, h2 _, b, l, g, ns, n + 2 * i, w, x, y, rfl, Bi, by omega, bi.tup B hg, G, fun p z H2 hz np hp B2 b2 => ?_⟩
    have hDl2 := b2 _ _ hDl nDb
    have keep : ∀ r us, H2 r = some (.tup us) → upd H2 Dl (.lst (ps.map V.ref ++ [.ref p])) r = some (.tup us) := fun r us h => by
      rw [upd_ne (ne_of h hDl2 (by intro z; cases z))]
      exact h
    refine ⟨_, hDl2, sz_lt (by rw [List.length_map]; omega), bag_upd (B2.ext (Ex.refl _) (by omega)) (Ne.symm nDb) (Ne.symm nDl), fun a o ha hb => ?_, ps ++ [p], zs ++ [z], by rw [upd_same, List.map_append] <;> rfl, by rw [List.length_append, hlen] <;> rfl, by rw [List.length_append, List.length_append, hLl] <;> rfl, fun j r u hr hu => ?_⟩
    · rw [upd_ne (ne_of_none ha hD)]
      exact b2 _ _ (bi _ _ ha hb) hb
    · by_cases hj : j < ps.length
      · rw [List.getElem?_append_left hj] at hr
        rw [List.getElem?_append_left (by omega)] at hu
        obtain ⟨q1, q2⟩ := hL j r u hr hu
        exact ⟨keep _ _ (b2.tup Bi q1), q2⟩
      · rw [List.getElem?_append_right (by omega)] at hr
        rw [List.getElem?_append_right (by omega)] at hu
        have e0 : j - ps.length = 0 := by
          have : j - ps.length < 1 := (List.getElem?_eq_some_iff.mp hr).1
          omega
        have e1 : j - zs.length = 0 := by omega
        rw [e0] at hr
        rw [e1] at hu
        cases hr
        cases hu
        exact ⟨keep _ _ hp, hz⟩
  · obtain ⟨Bi, bi, ps, zs, hDl, hlen, hP⟩ := p
    have em : ((m : Int).toNat) = m := by omega
    rw [em] at Bi hlen
    exact k Dl ps zs H' hD hDl hlen hP Bi bi
end Hs
namespace Hs
open PySem PySem.Spec PyProof.Rows L2 Evl
theorem q_ev {te : TE} {g : TG} {tz : TS} {D : Ends} {σ : L2.St} {H : Hp} (h : te σ H fun x H1 => g x σ H1 (tz D)) : tSeq (tAsg te g) tz D σ H := h
theorem s_ev {te : TE} {g : TG} {D : Ends} {σ : L2.St} {H : Hp} (h : te σ H fun x H1 => g x σ H1 D.nx) : tAsg te g D σ H := h
/-! ### comprehensions whose elements are new tuples -/
/-- new tuples, by their items -/
def Tups (H : Hp) (ps : List Addr) (us : List (List V)) : Prop := ps.length = us.length ∧ ∀ (i : Nat) (p : Addr) (u : List V), ps[i]? = some p → us[i]? = some u → H p = some (.tup u)
theorem Tups.ext {H H' : Hp} {ps : List Addr} {us : List (List V)} (h : Tups H ps us) (e : Ex H H') : Tups H' ps us := ⟨h.1, fun i p u hp hu => e _ _ (h.2 i p u hp hu)⟩
theorem Tups.snoc {H : Hp} {ps : List Addr} {us : List (List V)} {p : Addr} {u : List V} (h : Tups H ps us) (hp : H p = some (.tup u)) : Tups H (ps ++ [p]) (us ++ [u]) := by
  refine ⟨by rw [List.length_append, List.length_append, h.1] <;> rfl, fun j r v hr hv => ?_⟩
  have hl := h.1
  by_cases hj : j < ps.length
  · rw [List.getElem?_append_left hj] at hr
    rw [List.getElem?_append_left (by omega)] at hv
    exact h.2 j r v hr hv
  · rw [List.getElem?_append_right (by omega)] at hr
    rw [List.getElem?_append_right (by omega)] at hv
    have e0 : j - ps.length = 0 := by
      have : j - ps.length < 1 := (List.getElem?_eq_some_iff.mp hr).1
      omega
    have e1 : j - us.length = 0 := by omega
    rw [e0] at hr
    rw [e1] at hv
    cases hr
    cases hv
    exact hp
/-- a new list of new tuples -/
def EvLU (te : TE) (σ : L2.St) (H : Hp) (us : List (List V)) : Prop := ∀ H1, Ex H H1 → ∀ Q : VK, (∀ (p : Addr) (ps : List Addr) (H2 : Hp), H1 p = none → Ex H1 H2 → H2 p = some (.lst (ps.map V.ref)) → Tups H2 ps us → Q (.ref p) H2) → te σ H1 Q
/-- the turns so far -/
def Cu (H : Hp) (us : List (List V)) (Dl : Addr) (i : Nat) (H' : Hp) : Prop := H Dl = none ∧ Ex H H' ∧ ∃ ps : List Addr, H' Dl = some (.lst (ps.map V.ref)) ∧ Tups H' ps (us.take i)
theorem cu_turn {H H' : Hp} {us : List (List V)} {u : List V} {Dl : Addr} {i : Nat} {σ2 : L2.St} {te : TE} (p : Cu H us Dl i H') (hi : i < 50000) (hu : us[i]? = some u) (he : EvU te σ2 H u) :
    tYes σ2 H' fun b H3 => if b = true then te σ2 H3 fun y H4 => ∃ acc, H4 Dl = some (.lst acc) ∧ acc.length < sizeLine ∧ Cu H us Dl (i + 1) (upd H4 Dl (.lst (acc ++ [y]))) else Cu H us Dl (i + 1) H3 := by
  obtain ⟨p1, p2, ps, p3, p4⟩ := p
  show te σ2 H' fun y H4 => ∃ acc, H4 Dl = some (.lst acc) ∧ acc.length < sizeLine ∧ Cu H us Dl (i + 1) (upd H4 Dl (.lst (acc ++ [y])))
  refine he H' p2 _ fun q H4 hq e4 h4 => ⟨ps.map V.ref, e4 _ _ p3, sz_lt ?_, p1, Ex.mut (p2.trans e4) p1, ps ++ [q], by rw [upd_same, List.map_append] <;> rfl, ?_⟩
  · have := p4.1
    rw [List.length_map, this, List.length_take]
    omega
  · have e : us.take (i + 1) = us.take i ++ [u] := by rw [List.take_add_one, hu] <;> rfl
    rw [e]
    have h4D := e4 _ _ p3
    have keep : ∀ r v, H4 r = some (.tup v) → upd H4 Dl (.lst (ps.map V.ref ++ [.ref q])) r = some (.tup v) := fun r v h => by
      rw [upd_ne (ne_of h h4D (by intro z; cases z))]
      exact h
    exact Tups.snoc ⟨p4.1, fun j r v hr hv => keep _ _ (e4 _ _ (p4.2 j r v hr hv))⟩ (keep _ _ h4)
section
variable {K : PySem.W.Frag} {σ : L2.St} {H : Hp} {te : TE}
theorem elu_lcT {a : Addr} {xs : List V} {us : List (List V)} {tl : TE} {j : Nat} {vs : List Nat} (h : Ev tl σ H (.ref a)) (hx : SqT K H a xs) (hz : xs.length ≤ 40000) (hl : us.length = xs.length) (hw : ∀ x, wipe ((wipe σ vs).set j (some x)) vs = wipe σ vs)
    (he : ∀ (i : Nat) (x : V) (u : List V) H1, Ex H H1 → xs[i]? = some x → us[i]? = some u → EvU te ((wipe σ vs).set j (some x)) H1 u) :
    EvLU (tLc (iTup K tl) (gName j) tYes te vs) σ H us := fun H0 e Q q => h H0 e _ fun H1 e1 => ⟨a, rfl, ⟨xs, ex_t (e.trans e1) hx⟩, fun Dl hD =>
  lc_tup (xs := xs) (Cu H1 us Dl) ⟨hD, Ex.new hD, [], upd_same, rfl, fun i p u h => by cases h⟩ (fun i H' _ p => ex_t ((e.trans e1).trans p.2.1) hx) (fun i x H' hi p => by
      have hix := (List.getElem?_eq_some_iff.mp hi).1
      have hiu : i < us.length := by omega
      exact ⟨hw x, cu_turn p (by omega) (List.getElem?_eq_getElem hiu) (he i x _ H1 (e.trans e1) hi (List.getElem?_eq_getElem hiu))⟩)
    (fun H' p => by
      obtain ⟨p1, p2, ps, p3, p4⟩ := p
      rw [← hl, List.take_length] at p4
      exact q Dl ps H' (fresh_back e1 p1) (e1.trans p2) p3 p4)⟩
theorem elu_lcL {a : Addr} {xs : List V} {us : List (List V)} {tl : TE} {j : Nat} {vs : List Nat} (h : Ev tl σ H (.ref a)) (hx : SqL K H a xs) (hz : xs.length ≤ 40000) (hl : us.length = xs.length) (hw : ∀ x, wipe ((wipe σ vs).set j (some x)) vs = wipe σ vs)
    (he : ∀ (i : Nat) (x : V) (u : List V) H1, Ex H H1 → xs[i]? = some x → us[i]? = some u → EvU te ((wipe σ vs).set j (some x)) H1 u) :
    EvLU (tLc (iList K tl) (gName j) tYes te vs) σ H us := fun H0 e Q q => h H0 e _ fun H1 e1 => ⟨a, rfl, ⟨xs, ex_l (e.trans e1) hx⟩, fun Dl hD =>
  lc_list (xs := xs) (Cu H1 us Dl) ⟨hD, Ex.new hD, [], upd_same, rfl, fun i p u h => by cases h⟩ (fun i H' _ p => ex_l ((e.trans e1).trans p.2.1) hx) (fun i x H' hi p => by
      have hix := (List.getElem?_eq_some_iff.mp hi).1
      have hiu : i < us.length := by omega
      exact ⟨hw x, cu_turn p (by omega) (List.getElem?_eq_getElem hiu) (he i x _ H1 (e.trans e1) hi (List.getElem?_eq_getElem hiu))⟩)
    (fun H' p => by
      obtain ⟨p1, p2, ps, p3, p4⟩ := p
      rw [← hl, List.take_length] at p4
      exact q Dl ps H' (fresh_back e1 p1) (e1.trans p2) p3 p4)⟩
/-- over a new tuple -/
theorem elu_lcNT {xs : List V} {us : List (List V)} {tl : TE} {j : Nat} {vs : List Nat} (h : EvU tl σ H xs) (hz : xs.length ≤ 40000) (hl : us.length = xs.length) (hw : ∀ x, wipe ((wipe σ vs).set j (some x)) vs = wipe σ vs)
    (he : ∀ (i : Nat) (x : V) (u : List V) H1, Ex H H1 → xs[i]? = some x → us[i]? = some u → EvU te ((wipe σ vs).set j (some x)) H1 u) :
    EvLU (tLc (iTup K tl) (gName j) tYes te vs) σ H us := fun H0 e Q q => h H0 e _ fun a H1 ha e1 hx => ⟨a, rfl, ⟨xs, st_of hx⟩, fun Dl hD =>
  lc_tup (xs := xs) (Cu H1 us Dl) ⟨hD, Ex.new hD, [], upd_same, rfl, fun i p u h => by cases h⟩ (fun i H' _ p => st_of (p.2.1 a _ hx)) (fun i x H' hi p => by
      have hix := (List.getElem?_eq_some_iff.mp hi).1
      have hiu : i < us.length := by omega
      exact ⟨hw x, cu_turn p (by omega) (List.getElem?_eq_getElem hiu) (he i x _ H1 (e.trans e1) hi (List.getElem?_eq_getElem hiu))⟩)
    (fun H' p => by
      obtain ⟨p1, p2, ps, p3, p4⟩ := p
      rw [← hl, List.take_length] at p4
      exact q Dl ps H' (fresh_back e1 p1) (e1.trans p2) p3 p4)⟩
/-! ### the law's own comparison, of lists of plain values -/
theorem sm_flat {d : Nat} {v : V} (h : flatV v = true) : Sm K H (d + 1) v v := .inl ⟨rfl, h⟩
theorem sm_row {d : Nat} {xs : List V} (hf : xs.all flatV = true) (i : Nat) (x y : V) (hx : xs[i]? = some x) (hy : xs[i]? = some y) : Sm K H (d + 1) x y := by
  have e : x = y := Option.some.inj (hx.symm.trans hy)
  subst e
  exact sm_flat (List.all_eq_true.mp hf x (List.mem_of_getElem? hx))
theorem sm_lstF {d : Nat} {p q : Addr} {xs : List V} (h1 : SqL K H p xs) (h2 : SqL K H q xs) (hf : xs.all flatV = true) (hz : xs.length ≤ 1000) : Sm K H (d + 2) (.ref p) (.ref q) := .inr ⟨p, q, xs, xs, rfl, rfl, .inl ⟨h1, h2⟩, rfl, hz, sm_row hf⟩
theorem sm_tupF {d : Nat} {p q : Addr} {xs : List V} (h1 : SqT K H p xs) (h2 : SqT K H q xs) (hf : xs.all flatV = true) (hz : xs.length ≤ 1000) : Sm K H (d + 2) (.ref p) (.ref q) := .inr ⟨p, q, xs, xs, rfl, rfl, .inr ⟨h1, h2⟩, rfl, hz, sm_row hf⟩
theorem et_sameL {t1 t2 : TE} {xs : List V} {E : XK} {d : Nat} (h1 : EvL t1 σ H xs) (h2 : EvL t2 σ H xs) (hf : xs.all flatV = true) (hz : xs.length ≤ 1000) : EvT (tNot (tB (tCall (spSame K (d + 2)) [] E (tCons t1 (tCons t2 tNil))))) σ H false := fun H0 e0 Q q =>
  h1 H0 e0 _ fun p H1 n1 e1 b1 => h2 H1 (e0.trans e1) _ fun r H2 n2 e2 b2 => ⟨_, _, rfl, sm_lstF (sq_of (e2 _ _ b1)) (sq_of b2) hf hz, fun H3 e3 => ⟨true, rfl, q H3 ((e1.trans e2).trans e3)⟩⟩
/-! ### the program's functions, by their readings -/
theorem ev_side {n i j k : Nat} {p q r : Addr} {x y z : Pt} {E : XK} (h1 : σ[i]? = some (some (.ref p))) (h2 : σ[j]? = some (some (.ref q))) (h3 : σ[k]? = some (some (.ref r))) (hx : Pl K n H p x) (hy : Pl K n H q y) (hz : Pl K n H r z) :
    Ev (tCall (spSide K n) [] E (tCons (tVar i) (tCons (tVar j) (tCons (tVar k) tNil)))) σ H (.int (sgn (cross x y z))) := ev_call (ea_cons (ev_var h1) (ea_cons (ev_var h2) (ea_cons (ev_var h3) ea_nil))) fun H1 e1 Q' q' E' => ⟨p, q, r, x, y, z, rfl, hx.ext e1, hy.ext e1, hz.ext e1, q'⟩
theorem ev_cross {n i j k : Nat} {p q r : Addr} {x y z : Pt} {E : XK} (h1 : σ[i]? = some (some (.ref p))) (h2 : σ[j]? = some (some (.ref q))) (h3 : σ[k]? = some (some (.ref r))) (hx : Pl K n H p x) (hy : Pl K n H q y) (hz : Pl K n H r z) :
    Ev (tCall (spCross K n) [] E (tCons (tVar i) (tCons (tVar j) (tCons (tVar k) tNil)))) σ H (.int (cross x y z)) := ev_call (ea_cons (ev_var h1) (ea_cons (ev_var h2) (ea_cons (ev_var h3) ea_nil))) fun H1 e1 Q' q' E' => ⟨p, q, r, x, y, z, rfl, hx.ext e1, hy.ext e1, hz.ext e1, q'⟩
theorem ev_touch {n i j k : Nat} {p q r : Addr} {x y z : Pt} {E : XK} (h1 : σ[i]? = some (some (.ref p))) (h2 : σ[j]? = some (some (.ref q))) (h3 : σ[k]? = some (some (.ref r))) (hx : Pl K n H p x) (hy : Pl K n H q y) (hz : Pl K n H r z) :
    Ev (tCall (spTouch K n) [] E (tCons (tVar i) (tCons (tVar j) (tCons (tVar k) tNil)))) σ H (.bl (decide (OnP x y z))) := ev_call (ea_cons (ev_var h1) (ea_cons (ev_var h2) (ea_cons (ev_var h3) ea_nil))) fun H1 e1 Q' q' E' => ⟨p, q, r, x, y, z, rfl, hx.ext e1, hy.ext e1, hz.ext e1, q'⟩
end
theorem sgn_neg (i : Int) : sgn (-i) = -sgn i := by
  unfold sgn
  split <;> split <;> (try split) <;> (try split) <;> omega
theorem cross_swap (a b c : Pt) : cross b a c = -cross a b c := by
  unfold cross
  grind
theorem on_self (a b : Pt) : OnP a b a := by
  unfold OnP cross mn mx
  refine ⟨by simp [Int.sub_self], ?_, ?_, ?_, ?_⟩ <;> split <;> omega
theorem due_sgn (i : Int) : (if i < 0 then -1 else if decide (i > 0) = true then 1 else 0) = sgn i := by
  unfold sgn
  split <;> (try split) <;> (try split) <;> (try split) <;> simp_all <;> omega
end Hs
namespace Hs
open PySem PySem.Spec PyProof.Rows L2 Evl
def spWider (K : PySem.W.Frag) (n m : Nat) : Sp := fun vs H Q _ => ∃ p x k, vs = [.ref p, .int k] ∧ Pl K n H p x ∧ Bd m k ∧ RetU (prV (x.1 * k, x.2 * k)) H Q
section
variable {P : Program} {w : World} {K : PySem.W.Frag} {mg : Str → Option Value} {base : Heap} {f : Addr} {fd : FuncData} {n m : Nat}
abbrev sWider : Stmt := top 13
theorem scWider : FnScope ["_law_place", "_law_many"] ["_law_place", "_law_many"] (defScope sWider) := ⟨rfl, rfl, rfl, by decide +kernel, rfl, by decide +kernel, by decide +kernel⟩
theorem ok_wider (F : FnP K "_law_wider" sWider f fd) (hn : n + m ≤ 10000) : FnOk P w K mg base CX0 1 f fd ["_law_place", "_law_many"] (spWider K n m) := by
  have nd := scWider.nd
  refine F.ok scWider (fun vs H Q E h => ?_) (fun cdv A outer s H vs Q E hr h => ⟨_, PSs.nox (pss_one (ps_ret (pe_tup (pa_cons (pe_op op_mulW (pe_ix (r := rIxT K) ix_tup (pv 0) pe_int (fun _ _ => rfl)) (pv 1)) (pa_cons (pe_op op_mulW (pe_ix (r := rIxT K) ix_tup (pv 0) pe_int (fun _ _ => rfl)) (pv 1)) pa_nil))))), ?_⟩)
  · obtain ⟨p, x, k, rfl, _⟩ := h
    rfl
  · obtain ⟨p, x, j, rfl, hx, hj, k⟩ := h
    exact s_retU (eu_tup (ea_cons (ev_op (ev_x1 rfl hx) (ev_var rfl) (rv_I (hx.2.1.cmul hj (by omega)))) (ea_cons (ev_op (ev_x2 rfl hx) (ev_var rfl) (rv_I (hx.2.2.cmul hj (by omega)))) ea_nil)) (by simp)) fun p H3 hp e3 h3 => k p H3 hp e3 h3
end
theorem eu_wider {K : PySem.W.Frag} {σ : L2.St} {H : Hp} {n m : Nat} {ta tb : TE} {p : Addr} {x : Pt} {k : Int} {E : XK} (ha : Ev ta σ H (.ref p)) (hb : Ev tb σ H (.int k)) (hx : Pl K n H p x) (hk : Bd m k) : EvU (tCall (spWider K n m) [] E (tCons ta (tCons tb tNil))) σ H (prV (x.1 * k, x.2 * k)) :=
  eu_call (ea_cons ha (ea_cons hb ea_nil)) fun H1 e1 Q q E => ⟨p, x, k, rfl, hx.ext e1, hk, q⟩
theorem Pl.wide {K : PySem.W.Frag} {H : Hp} {n m : Nat} {p : Addr} {x : Pt} {k : Int} (h : H p = some (.tup (prV (x.1 * k, x.2 * k)))) (hx : Bd n x.1 ∧ Bd n x.2) (hk : Bd m k) : Pl K (n + m) H p (x.1 * k, x.2 * k) := ⟨st_of h, hx.1.mul hk, hx.2.mul hk⟩
end Hs
namespace Hs
open PySem PySem.Spec PyProof.Rows L2 Evl
def spLaw (K : PySem.W.Frag) : Sp := fun vs H Q _ => ∃ (a : Addr) (ns : List Int), vs = [.ref a] ∧ SqL K H a (ns.map V.int) ∧ ns.length ≤ 63 ∧ ∀ H', Q (.bl true) H'
theorem ev_onpN {K : PySem.W.Frag} {σ : L2.St} {H : Hp} {n : Nat} {tc ta tb : TE} {p q r : Addr} {x y z : Pt} {E : XK} (hc : Ev tc σ H (.ref r)) (ha : Ev ta σ H (.ref p)) (hb : Ev tb σ H (.ref q)) (hx : Pl K n H p x) (hy : Pl K n H q y) (hz : Pl K n H r z) :
    Ev (tCall (spOnp K n) [] E (tCons tc (tCons (tTup (tCons ta (tCons tb tNil))) tNil))) σ H (.bl (decide (OnP x y z))) := fun H1 e Q k =>
  hc H1 e _ fun H2 e2 => ha H2 (e.trans e2) _ fun H3 e3 => hb H3 ((e.trans e2).trans e3) _ fun H4 e4 => ⟨sz_of (by simp), fun t ht => by
    have x4 := (e2.trans e3).trans e4
    have x5 := x4.trans (Ex.new (o := .tup [V.ref p, .ref q]) ht)
    exact ⟨t, r, x, y, z, rfl, ⟨p, q, st_of upd_same, hx.ext (e.trans x5), hy.ext (e.trans x5)⟩, hz.ext (e.trans x5), fun H5 e5 => k H5 (x5.trans e5)⟩⟩
section
variable {P : Program} {w : World} {K : PySem.W.Frag} {mg : Str → Option Value} {base : Heap} {f : Addr} {fd : FuncData}
abbrev sLaw : Stmt := top 16
theorem scLaw : FnScope ["_law_script", "_law_bag_here", "_law_turn", "_law_grid_here", "_law_a", "_law_b", "_law_c", "_law_way", "_law_times_so", "_law_many", "_law_room", "_law_due", "_law_k", "_law_one"] ["_law_script"] (defScope sLaw) := ⟨rfl, rfl, rfl, by decide +kernel, rfl, by decide +kernel, by decide +kernel⟩
theorem ok_law (F : FnP K "law" sLaw f fd) (O__law_bag : Own P w K mg base 1 "_law_bag" ["_law_script"] (spBag K)) (O__law_pull : Own P w K mg base 1 "_law_pull" ["_law_bag_here", "_law_many"] spPull) (O__law_grid : Own P w K mg base 2 "_law_grid" ["_law_bag_here"] spGrid) (O__law_spot : Own P w K mg base 2 "_law_spot" ["_law_bag_here", "_law_grid_here"] spSpot)
    (O__law_wider : Own P w K mg base 1 "_law_wider" ["_law_place", "_law_many"] (spWider K 23 74)) (O__law_cross : Own P w K mg base 1 "_law_cross" ["_law_a", "_law_b", "_law_c"] (spCross K 97)) (O__law_touch : Own P w K mg base 2 "_law_touch" ["_law_a", "_law_b", "_law_c"] (spTouch K 97)) (O__law_same : Own P w K mg base 3 "_law_same" ["_law_got", "_law_due"] (spSame K 3))
    (O_side : Own P w K mg base 2 "side" ["one", "other", "place"] (spSide K 97)) (O_on_piece : Own P w K mg base 3 "on_piece" ["place", "piece"] (spOnp K 97)) (g_range : mg "range" = none) (g_int : mg "int" = none) : FnOk P w K mg base CX0 4 f fd ["_law_script"] (spLaw K) := by
  have nd := scLaw.nd
  refine F.ok scLaw (fun vs H Q E h => ?_) (fun cdv A outer s H vs Q E hr h => ⟨_, PSs.nox (pss_cons (ps_set (i := 1) nd rfl (.inr rfl) (Hs.pe_own O__law_bag hr (by first | decide | omega) (by rfl) (pa_cons (pv 0) pa_nil)))
  (pss_cons (ps_for PassesOwn.never rfl (pi_range1 (by rfl) g_range (pa_cons pe_int pa_nil)) (pg_name (i := 2) nd rfl (.inl rfl)) (pss_cons (ps_set (i := 3) nd rfl (.inr rfl) (Hs.pe_own O__law_grid hr (by first | decide | omega) (by rfl) (pa_cons (pv 1) pa_nil)))
  (pss_cons (ps_asg (pe_lc (own := [("_law_k", 12)]) rfl nd (pi_range1 (by rfl) g_range (pa_cons pe_int pa_nil)) (blkOk_by (N := ["_law_script", "_law_bag_here", "_law_turn", "_law_grid_here", "_law_a", "_law_b", "_law_c", "_law_way", "_law_times_so", "_law_many", "_law_room", "_law_due", "_law_k", "_law_one"]) (sc := defScope (Hs.top 16)) (by decide +kernel)) (fun _ _ _ _ _ => (pg_name (i := 12) nd rfl (Or.inl rfl))) (fun _ _ _ _ _ => pts_nil) (fun _ _ _ _ _ => (Hs.pe_own O__law_spot hr (by first | decide | omega) (by rfl) (pa_cons (pv 1) (pa_cons (pv 3) pa_nil))))) (pg_unl rfl (pgs_cons (pg_name (i := 4) nd rfl (.inl rfl)) (pgs_cons (pg_name (i := 5) nd rfl (.inl rfl)) (pgs_cons (pg_name (i := 6) nd rfl (.inl rfl)) pgs_nil)))))
  (Evl.pss_cut (ps_if (pt_cmpR op_eq (Hs.pe_own O__law_pull hr (by first | decide | omega) (by rfl) (pa_cons (pv 1) (pa_cons pe_int pa_nil))) pe_int (nomark _)) (pss_one (ps_set (i := 5) nd rfl (.inl rfl) (pv 4))) pss_nil)
  (pss_cons (ps_set (i := 7) nd rfl (.inl rfl) (Hs.pe_own O__law_pull hr (by first | decide | omega) (by rfl) (pa_cons (pv 1) (pa_cons pe_int pa_nil))))
  (Evl.pss_cut (ps_if (pt_cmpR op_lt (pv 7) pe_int (nomark _)) (pss_cons (ps_set (i := 8) nd rfl (.inl rfl) (pe_ix (r := rIxL K) ix_list (pe_lst (pa_cons pe_int (pa_cons (pe_op op_sub pe_int pe_int) pa_nil))) (pv 7) (fun _ _ => rfl)))
  (pss_one (ps_set (i := 6) nd rfl (.inl rfl) (pe_tup (pa_cons (pe_op op_add (pe_ix (r := rIxT K) ix_tup (pv 4) pe_int (fun _ _ => rfl)) (pe_op op_mulW (pv 8) (pe_op op_sub (pe_ix (r := rIxT K) ix_tup (pv 5) pe_int (fun _ _ => rfl)) (pe_ix (r := rIxT K) ix_tup (pv 4) pe_int (fun _ _ => rfl))))) (pa_cons (pe_op op_add (pe_ix (r := rIxT K) ix_tup (pv 4) pe_int (fun _ _ => rfl)) (pe_op op_mulW (pv 8) (pe_op op_sub (pe_ix (r := rIxT K) ix_tup (pv 5) pe_int (fun _ _ => rfl)) (pe_ix (r := rIxT K) ix_tup (pv 4) pe_int (fun _ _ => rfl))))) pa_nil)))))) pss_nil)
  (pss_cons (ps_set (i := 9) nd rfl (.inr rfl) (pe_ix (r := rIxL K) ix_list (pe_lst (pa_cons pe_int (pa_cons (pe_op op_pow pe_int pe_int) pa_nil))) (pe_callTy call_int1 (by rfl) g_int (by decide +kernel) (pa_cons (pe_cmpR op_eq (Hs.pe_own O__law_pull hr (by first | decide | omega) (by rfl) (pa_cons (pv 1) (pa_cons pe_int pa_nil))) pe_int (nomark _)) pa_nil)) (fun _ _ => rfl)))
  (pss_cons (ps_asg (pe_lc (own := [("_law_one", 13)]) rfl nd (pi_tup (pe_tup (pa_cons (pv 4) (pa_cons (pv 5) (pa_cons (pv 6) pa_nil))))) (blkOk_by (N := ["_law_script", "_law_bag_here", "_law_turn", "_law_grid_here", "_law_a", "_law_b", "_law_c", "_law_way", "_law_times_so", "_law_many", "_law_room", "_law_due", "_law_k", "_law_one"]) (sc := defScope (Hs.top 16)) (by decide +kernel)) (fun _ _ _ _ _ => (pg_name (i := 13) nd rfl (Or.inl rfl))) (fun _ _ _ _ _ => pts_nil) (fun _ _ _ _ _ => (Hs.pe_own O__law_wider hr (by first | decide | omega) (by rfl) (pa_cons (pv 13) (pa_cons (pv 9) pa_nil))))) (pg_unl rfl (pgs_cons (pg_name (i := 4) nd rfl (.inl rfl)) (pgs_cons (pg_name (i := 5) nd rfl (.inl rfl)) (pgs_cons (pg_name (i := 6) nd rfl (.inl rfl)) pgs_nil)))))
  (pss_cons (ps_set (i := 10) nd rfl (.inl rfl) (Hs.pe_own O__law_cross hr (by first | decide | omega) (by rfl) (pa_cons (pv 4) (pa_cons (pv 5) (pa_cons (pv 6) pa_nil)))))
  (pss_cons (ps_set (i := 11) nd rfl (.inl rfl) (pe_ifExp (pt_cmpR op_lt (pv 10) pe_int (nomark _)) (pe_un un_neg pe_int) (pe_callTy call_int1 (by rfl) g_int (by decide +kernel) (pa_cons (pe_cmpR op_gt (pv 10) pe_int (nomark _)) pa_nil))))
  (pss_cons (ps_if (pt_not (pt_val (Hs.pe_own O__law_same hr (by first | decide | omega) (by rfl) (pa_cons (pe_lst (pa_cons (Hs.pe_own O_side hr (by first | decide | omega) (by rfl) (pa_cons (pv 4) (pa_cons (pv 5) (pa_cons (pv 6) pa_nil)))) (pa_cons (Hs.pe_own O_side hr (by first | decide | omega) (by rfl) (pa_cons (pv 5) (pa_cons (pv 4) (pa_cons (pv 6) pa_nil)))) pa_nil))) (pa_cons (pe_lst (pa_cons (pv 11) (pa_cons (pe_op op_sub pe_int (pv 11)) pa_nil))) pa_nil))))) (pss_one (ps_ret pe_bl)) pss_nil)
  (pss_one (ps_if (pt_not (pt_val (Hs.pe_own O__law_same hr (by first | decide | omega) (by rfl) (pa_cons (pe_lst (pa_cons (Hs.pe_own O_on_piece hr (by first | decide | omega) (by rfl) (pa_cons (pv 6) (pa_cons (pe_tup (pa_cons (pv 4) (pa_cons (pv 5) pa_nil))) pa_nil))) (pa_cons (Hs.pe_own O_on_piece hr (by first | decide | omega) (by rfl) (pa_cons (pv 4) (pa_cons (pe_tup (pa_cons (pv 4) (pa_cons (pv 5) pa_nil))) pa_nil))) pa_nil))) (pa_cons (pe_lst (pa_cons (Hs.pe_own O__law_touch hr (by first | decide | omega) (by rfl) (pa_cons (pv 4) (pa_cons (pv 5) (pa_cons (pv 6) pa_nil)))) (pa_cons pe_bl pa_nil))) pa_nil))))) (pss_one (ps_ret pe_bl)) pss_nil)))))))))))))
  (pss_one (ps_ret pe_bl)))), ?_⟩)
  · obtain ⟨a, ns, rfl, _⟩ := h
    rfl
  · obtain ⟨a, ns, rfl, hS0, hl, k⟩ := h
    refine ⟨_, rfl, a, ns, rfl, hS0, hl, fun b l H1 nb nl B1 e1 => ?_⟩
    show tSeq _ _ _ [some (.ref a), some (.ref b), none, none, none, none, none, none, none, none, none, none, none, none] H1
    refine q_forR1 (n := 8) (ea_cons ev_c ea_nil) (by decide) (fun i σ' H' => (∃ v2 v3 v4 v5 v6 v7 v8 v9 v10 v11 v12 v13 : Option V, σ' = [some (.ref a), some (.ref b), v2, v3, v4, v5, v6, v7, v8, v9, v10, v11, v12, v13]) ∧ BagAt H' b l ns (20 * i)) ?_ ?_ ?_
    · intro H4 e4
      exact ⟨⟨none, none, none, none, none, none, none, none, none, none, none, none, rfl⟩, B1.ext e4 (by omega)⟩
    · rintro t σ' H4 ht ⟨⟨v2, v3, v4, v5, v6, v7, v8, v9, v10, v11, v12, v13, rfl⟩, B4⟩
      refine ⟨_, rfl, b, l, ns, _, rfl, B4, by omega, fun g gw gx gy H5 G ng hg B5 b5 => ?_⟩
      dsimp only [gName, List.set]
      refine q_ev ?_
      refine lc_spots (m := 3) (fun _ => rfl) (fun _ => rfl) (fun _ => rfl) B5 (by omega) (by decide) hg G fun Dl ps zs H6 nD hDl hlen hP B6 b6 => ?_
      obtain ⟨p1, p2, p3, rfl⟩ : ∃ p1 p2 p3, ps = [p1, p2, p3] := match ps, hlen with
        | [p1, p2, p3], _ => ⟨p1, p2, p3, rfl⟩
      obtain ⟨z1, z2, z3, rfl⟩ : ∃ z1 z2 z3, zs = [z1, z2, z3] := match zs, hP.1 with
        | [z1, z2, z3], _ => ⟨z1, z2, z3, rfl⟩
      obtain ⟨h1, c1⟩ := hP.2 0 p1 z1 rfl rfl
      obtain ⟨h2, c2⟩ := hP.2 1 p2 z2 rfl rfl
      obtain ⟨h3, c3⟩ := hP.2 2 p3 z3 rfl rfl
      refine ⟨Dl, _, rfl, sq_of hDl, rfl, _, _, rfl, _, _, rfl, _, _, rfl, rfl, ?_⟩
      dsimp only [gName, List.set]
      refine q_cut (M := fun σ' H' => ∃ (p2 : Addr) (z2 : Pt), σ' = [some (.ref a), some (.ref b), some (.int (t : Int)), some (.ref g), some (.ref p1), some (.ref p2), some (.ref p3), v7, v8, v9, v10, v11, v12, v13] ∧ Near z2 ∧ H' p1 = some (.tup (prV z1)) ∧ H' p2 = some (.tup (prV z2)) ∧ H' p3 = some (.tup (prV z3)) ∧ BagAt H' b l ns (20 * t + 10)) ?_ ?_
      · refine ⟨_, rfl, b, l, ns, _, 5, rfl, B6, by omega, by decide, by decide, fun v H7 v0 v1 B7 b7 => ⟨rfl, _, rfl, ?_⟩⟩
        have k1 := b7.tup B6 h1
        have k2 := b7.tup B6 h2
        have k3 := b7.tup B6 h3
        by_cases hv : v = 0
        · refine ite_T (decide_eq_true (by rw [hv])) ?_
          exact ⟨_, rfl, p1, z1, rfl, c1, k1, k1, k3, B7.ext (Ex.refl _) (by omega)⟩
        · refine ite_F (decide_eq_false (fun z => hv (by injection z))) ?_
          exact ⟨p2, z2, rfl, c2, k1, k2, k3, B7.ext (Ex.refl _) (by omega)⟩
      · clear h1 h2 h3 hP c2
        rintro σ' H8 ⟨p2, z2, rfl, c2, h1, h2, h3, B8⟩
        refine ⟨_, rfl, b, l, ns, _, 6, rfl, B8, by omega, by decide, by decide, fun v H9 v0 v1 B9 b9 => ?_⟩
        have k1 := b9.tup B8 h1
        have k2 := b9.tup B8 h2
        have k3 := b9.tup B8 h3
        dsimp only [gName, List.set]
        refine q_cut (M := fun σ' H' => ∃ (p3 : Addr) (z3 : Pt) (v8 : Option V), σ' = [some (.ref a), some (.ref b), some (.int (t : Int)), some (.ref g), some (.ref p1), some (.ref p2), some (.ref p3), some (.int v), v8, v9, v10, v11, v12, v13] ∧ (z3.1.natAbs < 2 ^ 23 ∧ z3.2.natAbs < 2 ^ 23) ∧ H' p1 = some (.tup (prV z1)) ∧ H' p2 = some (.tup (prV z2)) ∧ H' p3 = some (.tup (prV z3)) ∧ BagAt H' b l ns (20 * t + 11)) ?_ ?_
        · obtain ⟨n1, n2⟩ := c1
          obtain ⟨m1, m2⟩ := c2
          refine s_when (et_test (ev_op (ev_var rfl) ev_c rv_I0)) (fun ht H10 e10 => ?_) (fun ht H10 e10 => ?_)
          · obtain ⟨ts, hts, tb⟩ : ∃ ts : Int, atI [V.int 2, V.int (0 - 1)] v = some (.int ts) ∧ (ts = 2 ∨ ts = -1) := by
              have : v < 2 := of_decide_eq_true ht
              obtain rfl | rfl : v = 0 ∨ v = 1 := by omega
              · exact ⟨2, rfl, .inl rfl⟩
              · exact ⟨-1, rfl, .inr rfl⟩
            refine q_asg (v := .int ts) (ev_opL1 (el_lst (ea_cons ev_c (ea_cons (ev_op ev_c ev_c rv_I0) ea_nil)) (by simp)) (fun H11 _ => ev_var rfl) (fun p H11 h11 _ => rv_ixL (sq_of h11) hts)) fun H11 e11 => ?_
            have e12 := e10.trans e11
            have q1 := st_of (K := K) (e12 _ _ k1)
            have q2 := st_of (K := K) (e12 _ _ k2)
            refine s_asgU (xs := prV (z1.1 + ts * (z2.1 - z1.1), z1.2 + ts * (z2.2 - z1.2))) (eu_tup (ea_cons (ev_op (ev_ixt rfl q1 rfl) (ev_op (ev_var rfl) (ev_op (ev_ixt rfl q2 rfl) (ev_ixt rfl q1 rfl) rv_I0) (rv_I (mul64 (by omega) (by omega)))) rv_I0) (ea_cons (ev_op (ev_ixt rfl q1 rfl) (ev_op (ev_var rfl) (ev_op (ev_ixt rfl q2 rfl) (ev_ixt rfl q1 rfl) rv_I0) (rv_I (mul64 (by omega) (by omega)))) rv_I0) ea_nil)) (by show 2 ≤ 100000; decide)) fun p H12 hp e13 h12 => ?_
            have e14 := e12.trans e13
            refine ⟨p, _, _, rfl, ⟨?_, ?_⟩, e14 _ _ k1, e14 _ _ k2, h12, B9.ext e14 (by omega)⟩
            · show (z1.1 + ts * (z2.1 - z1.1)).natAbs < 8388608
              rcases tb with rfl | rfl <;> omega
            · show (z1.2 + ts * (z2.2 - z1.2)).natAbs < 8388608
              rcases tb with rfl | rfl <;> omega
          · obtain ⟨o1, o2⟩ := c3
            exact ⟨p3, z3, v8, rfl, ⟨by omega, by omega⟩, e10 _ _ k1, e10 _ _ k2, e10 _ _ k3, B9.ext e10 (by omega)⟩
        · clear h1 h2 h3 k1 k2 k3 c3
          rintro σ' H10 ⟨p3, z3, v8, rfl, c3, h1, h2, h3, B10⟩
          -- many
          refine ⟨_, _, rfl, rfl, ⟨by decide, by decide, by decide⟩, sz_of (by simp), fun tl htl => ⟨_, rfl, b, l, ns, _, 4, rfl, B10.ext (Ex.new htl) (Nat.le_refl _), by omega, by decide, by decide, fun v' H11 v0' v1' B11 b11 => ⟨rfl, .inr ⟨_, rfl, ?_⟩⟩⟩⟩
          have e10 := Ex.new (o := .lst [V.int 1, .int (10 ^ Int.toNat 22)]) htl
          have htl11 := b11 _ _ (upd_same (H := H10) (a := tl) (o := .lst [V.int 1, .int (10 ^ Int.toNat 22)])) (bag_ne B10 htl)
          obtain ⟨many, hat, mb⟩ : ∃ many : Int, atI [V.int 1, .int (10 ^ Int.toNat 22)] (if decide (V.int v' = V.int 0) = true then 1 else 0) = some (.int many) ∧ Bd 74 many := by
            split
            · exact ⟨_, rfl, by show _ < _; decide⟩
            · exact ⟨_, rfl, by show _ < _; decide⟩
          refine ⟨tl, _, _, .int many, rfl, rfl, sq_of htl11, hat, ?_⟩
          have k1 := b11.tup (B10.ext e10 (Nat.le_refl _)) (e10 _ _ h1)
          have k2 := b11.tup (B10.ext e10 (Nat.le_refl _)) (e10 _ _ h2)
          have k3 := b11.tup (B10.ext e10 (Nat.le_refl _)) (e10 _ _ h3)
          have d1 : Bd 23 z1.1 ∧ Bd 23 z1.2 := ⟨Nat.lt_of_le_of_lt c1.1 (by decide), Nat.lt_of_le_of_lt c1.2 (by decide)⟩
          have d2 : Bd 23 z2.1 ∧ Bd 23 z2.2 := ⟨Nat.lt_of_le_of_lt c2.1 (by decide), Nat.lt_of_le_of_lt c2.2 (by decide)⟩
          have pl : ∀ {H' : Hp} {p : Addr} {z : Pt}, Ex H11 H' → H11 p = some (.tup (prV z)) → Bd 23 z.1 ∧ Bd 23 z.2 → Pl K 23 H' p z := fun e h c => ⟨st_of (e _ _ h), c⟩
          dsimp only [gName, List.set]
          refine q_ev ?_
          refine elu_lcNT (xs := [.ref p1, .ref p2, .ref p3]) (us := [prV (z1.1 * many, z1.2 * many), prV (z2.1 * many, z2.2 * many), prV (z3.1 * many, z3.2 * many)]) (eu_tup (ea_cons (ev_var rfl) (ea_cons (ev_var rfl) (ea_cons (ev_var rfl) ea_nil))) (by simp)) (by simp) rfl (fun _ => rfl) (fun i x u H12 e12 hx hu => ?_) H11 (Ex.refl _) _ fun Dl ps H12 nD e12 hDl hT => ?_
          · match i, hx, hu with
            | 0, hx, hu => cases hx; cases hu; exact eu_wider (ev_var rfl) (ev_var rfl) (pl e12 k1 d1) mb
            | 1, hx, hu => cases hx; cases hu; exact eu_wider (ev_var rfl) (ev_var rfl) (pl e12 k2 d2) mb
            | 2, hx, hu => cases hx; cases hu; exact eu_wider (ev_var rfl) (ev_var rfl) (pl e12 k3 c3) mb
            | i + 3, hx, hu => cases hx
          · obtain ⟨a1, a2, a3, rfl⟩ : ∃ a1 a2 a3, ps = [a1, a2, a3] := match ps, hT.1 with
              | [a1, a2, a3], _ => ⟨a1, a2, a3, rfl⟩
            have f1 : Pl K 97 H12 a1 _ := Pl.wide (hT.2 0 a1 _ rfl rfl) d1 mb
            have f2 : Pl K 97 H12 a2 _ := Pl.wide (hT.2 1 a2 _ rfl rfl) d2 mb
            have f3 : Pl K 97 H12 a3 _ := Pl.wide (hT.2 2 a3 _ rfl rfl) c3 mb
            generalize (z1.1 * many, z1.2 * many) = w1 at f1
            generalize (z2.1 * many, z2.2 * many) = w2 at f2
            generalize (z3.1 * many, z3.2 * many) = w3 at f3
            refine ⟨Dl, _, rfl, sq_of hDl, rfl, _, _, rfl, _, _, rfl, _, _, rfl, rfl, ?_⟩
            dsimp only [gName, List.set]
            refine q_asg (ev_cross rfl rfl rfl f1 f2 f3) fun H13 e13 => ?_
            refine q_asg (v := .int (sgn (cross w1 w2 w3))) (ev_if (et_test (ev_op (ev_var rfl) ev_c rv_I0)) (fun ht => ?_) (fun ht => ?_)) fun H14 e14 => ?_
            · have h0 : cross w1 w2 w3 < 0 := of_decide_eq_true ht
              exact ev_is (ev_un ev_c ru_neg) (by rw [← due_sgn, if_pos h0])
            · have h0 : ¬ cross w1 w2 w3 < 0 := of_decide_eq_false ht
              exact ev_is (ev_cb (ea_cons (ev_op (ev_var rfl) ev_c rv_I0) ea_nil) fun H1 _ Q q => .inr ⟨_, rfl, q H1 (Ex.refl H1)⟩) (by rw [← due_sgn, if_neg h0])
            have e134 := e13.trans e14
            refine q_when (et_sameL (d := 1) (xs := [.int (sgn (cross w1 w2 w3)), .int (0 - sgn (cross w1 w2 w3))]) (el_lst (ea_cons (ev_side rfl rfl rfl (f1.ext e134) (f2.ext e134) (f3.ext e134)) (ea_cons (ev_is (ev_side rfl rfl rfl (f2.ext e134) (f1.ext e134) (f3.ext e134)) (by rw [cross_swap, sgn_neg, Int.zero_sub])) ea_nil)) (by simp)) (el_lst (ea_cons (ev_var rfl) (ea_cons (ev_op ev_c (ev_var rfl) rv_I0) ea_nil)) (by simp)) rfl (by simp)) (fun ht => Bool.noConfusion ht) (fun _ H15 e15 => ?_)
            have e135 := e134.trans e15
            refine s_when (et_sameL (d := 1) (xs := [.bl (decide (OnP w1 w2 w3)), .bl true]) (el_lst (ea_cons (ev_onpN (ev_var rfl) (ev_var rfl) (ev_var rfl) (f1.ext e135) (f2.ext e135) (f3.ext e135)) (ea_cons (ev_is (ev_onpN (ev_var rfl) (ev_var rfl) (ev_var rfl) (f1.ext e135) (f2.ext e135) (f1.ext e135)) (by rw [decide_eq_true (on_self w1 w2)])) ea_nil)) (by simp)) (el_lst (ea_cons (ev_touch rfl rfl rfl (f1.ext e135) (f2.ext e135) (f3.ext e135)) (ea_cons ev_c ea_nil)) (by simp)) rfl (by simp)) (fun ht => Bool.noConfusion ht) (fun _ H16 e16 => ?_)
            exact ⟨⟨_, _, _, _, _, _, _, _, _, _, _, _, rfl⟩, B11.ext ((e12.trans e135).trans e16) (by omega)⟩
    · rintro σ' H2 ⟨⟨v2, v3, v4, v5, v6, v7, v8, v9, v10, v11, v12, v13, rfl⟩, B2⟩
      exact s_ret ev_c fun H3 e3 => k H3
end
end Hs
namespace Hs
open PySem PySem.Spec PyProof.Rows L2 Evl
/-! ### the facts of the top -/
def dsLean : He.DefD := ⟨("lean", none), "lean", "lean", defArgs sLean, defBody sLean, defScope sLean, [], []⟩
def dsSide : He.DefD := ⟨("side", none), "side", "side", defArgs sSide, defBody sSide, defScope sSide, [], []⟩
def dsBox : He.DefD := ⟨("box_around", none), "box_around", "box_around", defArgs sBox, defBody sBox, defScope sBox, [], []⟩
def dsHts : He.DefD := ⟨("block_heights", none), "block_heights", "block_heights", defArgs sHts, defBody sHts, defScope sHts, [], []⟩
def dsPhts : He.DefD := ⟨("piece_heights", none), "piece_heights", "piece_heights", defArgs sPhts, defBody sPhts, defScope sPhts, [], []⟩
def dsOnp : He.DefD := ⟨("on_piece", none), "on_piece", "on_piece", defArgs sOnp, defBody sOnp, defScope sOnp, [], []⟩
def dsBag : He.DefD := ⟨("_law_bag", none), "_law_bag", "_law_bag", defArgs sBag, defBody sBag, defScope sBag, [], []⟩
def dsPull : He.DefD := ⟨("_law_pull", none), "_law_pull", "_law_pull", defArgs sPull, defBody sPull, defScope sPull, [], []⟩
def dsSame : He.DefD := ⟨("_law_same", none), "_law_same", "_law_same", defArgs sSame, defBody sSame, defScope sSame, [], []⟩
def dsCross : He.DefD := ⟨("_law_cross", none), "_law_cross", "_law_cross", defArgs sCross, defBody sCross, defScope sCross, [], []⟩
def dsTouch : He.DefD := ⟨("_law_touch", none), "_law_touch", "_law_touch", defArgs sTouch, defBody sTouch, defScope sTouch, [], []⟩
def dsWider : He.DefD := ⟨("_law_wider", none), "_law_wider", "_law_wider", defArgs sWider, defBody sWider, defScope sWider, [], []⟩
def dsGrid : He.DefD := ⟨("_law_grid", none), "_law_grid", "_law_grid", defArgs sGrid, defBody sGrid, defScope sGrid, [], []⟩
def dsSpot : He.DefD := ⟨("_law_spot", none), "_law_spot", "_law_spot", defArgs sSpot, defBody sSpot, defScope sSpot, [], []⟩
def dsLaw : He.DefD := ⟨("law", none), "law", "law", defArgs sLaw, defBody sLaw, defScope sLaw, [], []⟩
def fn : List He.DefD := [dsLean, dsSide, dsBox, dsHts, dsPhts, dsOnp, dsBag, dsPull, dsSame, dsCross, dsTouch, dsWider, dsGrid, dsSpot, dsLaw]
def fa : List He.Fa := [.glo "lean", .glo "side", .glo "box_around", .glo "block_heights", .glo "piece_heights", .glo "on_piece", .glo "_law_bag", .glo "_law_pull", .glo "_law_same", .glo "_law_cross", .glo "_law_touch", .glo "_law_wider", .glo "_law_grid", .glo "_law_spot", .glo "law", .free "len", .free "list", .free "int", .free "str", .free "bool", .free "tuple", .free "isinstance", .free "all", .free "range", .free "min", .free "max"]
abbrev R : PySem.W.OpenRow := PySem.W.OpenLaw.row PySem.Challenge.rw_hueshade_k01_sides_of_places
abbrev hk : PySem.W.Hook := He.hookD 4 fa fn
def ob (s : PySem.W.SharedT) : He.AlD := He.obsDG 4 fa fn (HandSHeadRun.getT s)
theorem ob_eq (s : PySem.W.SharedT) : ob s = hk.obs s.abs := He.obsDG_eq (HandSHeadRun.getT_eq s)
abbrev others : List Str := ["__name__", "lean", "side", "box_around", "block_heights", "piece_heights", "on_piece", "_law_bag", "_law_pull", "_law_same", "_law_cross", "_law_touch", "_law_wider", "_law_grid", "_law_spot"]
theorem run (w : World) : HandSHeadRun.RunEq R (PySem.W.view R.prog [16]) hk ob 5000 others w := by
  intro os
  kernel_rfl
end Hs
namespace Hs
open PySem PySem.Spec PyProof.Rows L2 Evl
theorem facts {P : Program} {w : World} {K : PySem.W.Frag} {h : Heap} {mg : Str → Option Value} {f : Addr} (X : K.In h) (G : h.Ns mainGlobals mg) (hfa : mg ("law" : Str) = some (.ref f)) (cd : He.SaysD fa fn K) :
    ∃ fd : FuncData, (∀ (s : Shared) (v : Value), BindsTo s fd ⟨[v], []⟩ [("_law_script", v)]) ∧ ∀ base : Heap, FnOk P w K mg base CX0 4 f fd ["_law_script"] (spLaw K) := by
  obtain ⟨fd_lean, F_lean⟩ : ∃ fd, FnP K "lean" sLean (He.ga K "lean") fd := cd.def_ 0 (d := dsLean) rfl
  have m_lean := He.glo_ok X G (cd.fact 0 (f := .glo "lean") rfl)
  obtain ⟨fd_side, F_side⟩ : ∃ fd, FnP K "side" sSide (He.ga K "side") fd := cd.def_ 1 (d := dsSide) rfl
  have m_side := He.glo_ok X G (cd.fact 1 (f := .glo "side") rfl)
  obtain ⟨fd_box_around, F_box_around⟩ : ∃ fd, FnP K "box_around" sBox (He.ga K "box_around") fd := cd.def_ 2 (d := dsBox) rfl
  have m_box_around := He.glo_ok X G (cd.fact 2 (f := .glo "box_around") rfl)
  obtain ⟨fd_block_heights, F_block_heights⟩ : ∃ fd, FnP K "block_heights" sHts (He.ga K "block_heights") fd := cd.def_ 3 (d := dsHts) rfl
  have m_block_heights := He.glo_ok X G (cd.fact 3 (f := .glo "block_heights") rfl)
  obtain ⟨fd_piece_heights, F_piece_heights⟩ : ∃ fd, FnP K "piece_heights" sPhts (He.ga K "piece_heights") fd := cd.def_ 4 (d := dsPhts) rfl
  have m_piece_heights := He.glo_ok X G (cd.fact 4 (f := .glo "piece_heights") rfl)
  obtain ⟨fd_on_piece, F_on_piece⟩ : ∃ fd, FnP K "on_piece" sOnp (He.ga K "on_piece") fd := cd.def_ 5 (d := dsOnp) rfl
  have m_on_piece := He.glo_ok X G (cd.fact 5 (f := .glo "on_piece") rfl)
  obtain ⟨fd__law_bag, F__law_bag⟩ : ∃ fd, FnP K "_law_bag" sBag (He.ga K "_law_bag") fd := cd.def_ 6 (d := dsBag) rfl
  have m__law_bag := He.glo_ok X G (cd.fact 6 (f := .glo "_law_bag") rfl)
  obtain ⟨fd__law_pull, F__law_pull⟩ : ∃ fd, FnP K "_law_pull" sPull (He.ga K "_law_pull") fd := cd.def_ 7 (d := dsPull) rfl
  have m__law_pull := He.glo_ok X G (cd.fact 7 (f := .glo "_law_pull") rfl)
  obtain ⟨fd__law_same, F__law_same⟩ : ∃ fd, FnP K "_law_same" sSame (He.ga K "_law_same") fd := cd.def_ 8 (d := dsSame) rfl
  have m__law_same := He.glo_ok X G (cd.fact 8 (f := .glo "_law_same") rfl)
  obtain ⟨fd__law_cross, F__law_cross⟩ : ∃ fd, FnP K "_law_cross" sCross (He.ga K "_law_cross") fd := cd.def_ 9 (d := dsCross) rfl
  have m__law_cross := He.glo_ok X G (cd.fact 9 (f := .glo "_law_cross") rfl)
  obtain ⟨fd__law_touch, F__law_touch⟩ : ∃ fd, FnP K "_law_touch" sTouch (He.ga K "_law_touch") fd := cd.def_ 10 (d := dsTouch) rfl
  have m__law_touch := He.glo_ok X G (cd.fact 10 (f := .glo "_law_touch") rfl)
  obtain ⟨fd__law_wider, F__law_wider⟩ : ∃ fd, FnP K "_law_wider" sWider (He.ga K "_law_wider") fd := cd.def_ 11 (d := dsWider) rfl
  have m__law_wider := He.glo_ok X G (cd.fact 11 (f := .glo "_law_wider") rfl)
  obtain ⟨fd__law_grid, F__law_grid⟩ : ∃ fd, FnP K "_law_grid" sGrid (He.ga K "_law_grid") fd := cd.def_ 12 (d := dsGrid) rfl
  have m__law_grid := He.glo_ok X G (cd.fact 12 (f := .glo "_law_grid") rfl)
  obtain ⟨fd__law_spot, F__law_spot⟩ : ∃ fd, FnP K "_law_spot" sSpot (He.ga K "_law_spot") fd := cd.def_ 13 (d := dsSpot) rfl
  have m__law_spot := He.glo_ok X G (cd.fact 13 (f := .glo "_law_spot") rfl)
  obtain ⟨fd_law, F_law⟩ : ∃ fd, FnP K "law" sLaw (He.ga K "law") fd := cd.def_ 14 (d := dsLaw) rfl
  have m_law := He.glo_ok X G (cd.fact 14 (f := .glo "law") rfl)
  have g_len := He.free_ok X G (cd.fact 15 (f := .free "len") rfl)
  have g_list := He.free_ok X G (cd.fact 16 (f := .free "list") rfl)
  have g_int := He.free_ok X G (cd.fact 17 (f := .free "int") rfl)
  have g_str := He.free_ok X G (cd.fact 18 (f := .free "str") rfl)
  have g_bool := He.free_ok X G (cd.fact 19 (f := .free "bool") rfl)
  have g_tuple := He.free_ok X G (cd.fact 20 (f := .free "tuple") rfl)
  have g_isinstance := He.free_ok X G (cd.fact 21 (f := .free "isinstance") rfl)
  have g_all := He.free_ok X G (cd.fact 22 (f := .free "all") rfl)
  have g_range := He.free_ok X G (cd.fact 23 (f := .free "range") rfl)
  have g_min := He.free_ok X G (cd.fact 24 (f := .free "min") rfl)
  have g_max := He.free_ok X G (cd.fact 25 (f := .free "max") rfl)
  have ef : f = He.ga K "law" := by
    have e := hfa.symm.trans m_law
    cases e
    rfl
  subst ef
  have hb := FunD.bindsA (ps := ["_law_script"]) F_law (fun _ _ _ _ _ _ us hl => match us, hl with | [_], _ => rfl)
  refine ⟨_, fun s v => hb s [v] rfl, fun base => ?_⟩
  have O_lean := own_of F_lean m_lean (ok_lean (n := 97) (P := P) (w := w) (mg := mg) (base := base) F_lean (by decide)) (fun _ _ _ _ _ _ us hl => match us, hl with | [_, _, _], _ => rfl)
  have O_side := own_of F_side m_side (ok_side F_side O_lean) (fun _ _ _ _ _ _ us hl => match us, hl with | [_, _, _], _ => rfl)
  have O_box_around := own_of F_box_around m_box_around (ok_box (n := 97) (P := P) (w := w) (mg := mg) (base := base) F_box_around g_min g_max) (fun _ _ _ _ _ _ us hl => match us, hl with | [_], _ => rfl)
  have O_block_heights := own_of F_block_heights m_block_heights (ok_hts (n := 97) (P := P) (w := w) (mg := mg) (base := base) F_block_heights) (fun _ _ _ _ _ _ us hl => match us, hl with | [_, _], _ => rfl)
  have O_piece_heights := own_of F_piece_heights m_piece_heights (ok_phts F_piece_heights O_lean O_box_around O_block_heights) (fun _ _ _ _ _ _ us hl => match us, hl with | [_, _], _ => rfl)
  have O_on_piece := own_of F_on_piece m_on_piece (ok_onp F_on_piece O_piece_heights g_min) (fun _ _ _ _ _ _ us hl => match us, hl with | [_, _], _ => rfl)
  have O__law_pull := own_of F__law_pull m__law_pull (ok_pull (P := P) (w := w) (mg := mg) (base := base) F__law_pull g_len) (fun _ _ _ _ _ _ us hl => match us, hl with | [_, _], _ => rfl)
  have O__law_bag := own_of F__law_bag m__law_bag (ok_bag (P := P) (w := w) (mg := mg) (base := base) F__law_bag g_len g_list) (fun _ _ _ _ _ _ us hl => match us, hl with | [_], _ => rfl)
  have O__law_same := own_of F__law_same m__law_same (ok_same (P := P) (w := w) (mg := mg) (base := base) F__law_same m__law_same g_len g_isinstance g_bool g_int g_str g_list g_tuple g_all g_range 3) (fun _ _ _ _ _ _ us hl => match us, hl with | [_, _], _ => rfl)
  have O__law_cross := own_of F__law_cross m__law_cross (ok_cross (n := 97) (P := P) (w := w) (mg := mg) (base := base) F__law_cross (by decide)) (fun _ _ _ _ _ _ us hl => match us, hl with | [_, _, _], _ => rfl)
  have O__law_touch := own_of F__law_touch m__law_touch (ok_touch F__law_touch O__law_cross g_min g_max) (fun _ _ _ _ _ _ us hl => match us, hl with | [_, _, _], _ => rfl)
  have O__law_wider := own_of F__law_wider m__law_wider (ok_wider (n := 23) (m := 74) (P := P) (w := w) (mg := mg) (base := base) F__law_wider (by decide)) (fun _ _ _ _ _ _ us hl => match us, hl with | [_, _], _ => rfl)
  have O__law_grid := own_of F__law_grid m__law_grid (ok_grid F__law_grid O__law_pull) (fun _ _ _ _ _ _ us hl => match us, hl with | [_], _ => rfl)
  have O__law_spot := own_of F__law_spot m__law_spot (ok_spot F__law_spot O__law_pull) (fun _ _ _ _ _ _ us hl => match us, hl with | [_, _], _ => rfl)
  exact ok_law F_law O__law_bag O__law_pull O__law_grid O__law_spot O__law_wider O__law_cross O__law_touch O__law_same O_side O_on_piece g_range g_int
end Hs
open PySem PySem.W PySem.Calls PyProof.Rows
theorem PySem.Challenge.cw_hueshade_k01_sides_of_places_holds : PySem.Challenge.rw_hueshade_k01_sides_of_places.Holds := by
  w_on; o_law
  refine HandSHeadRun.head_any (r := OpenLaw.row PySem.Challenge.rw_hueshade_k01_sides_of_places) (q := view (OpenLaw.row PySem.Challenge.rw_hueshade_k01_sides_of_places).prog [16]) (H := Hs.hk) (ob := Hs.ob) (M := 5000) (loose := Hs.others) (d := HandSHeadRun.topDef (OpenLaw.row PySem.Challenge.rw_hueshade_k01_sides_of_places).prog 16) (kwd := []) Hs.ob_eq
    (by kernel_rfl) (fun s => by kernel_rfl) Hs.run (by kernel_rfl) (by kernel_rfl) (by kernel_rfl) (by rfl) (by first | assumption | decide +kernel) (by decide +kernel) ⟨rfl, rfl, rfl, rfl, rfl, by decide +kernel⟩ ?hw ?hc
  case hw => w_witness2
  case hc =>
    refine L2.walk_ofE (l := PySem.Challenge.rw_hueshade_k01_sides_of_places) (n := 63) (k := 4) (x := "_law_script") (CX := L2.CX0) rfl (by decide) (by kernel_rfl) ⟨rfl, by decide, by decide⟩ ?F (fun _ _ _ _ z => z)
    intro w mg fa h Y G hmg0
    obtain ⟨K, KX, c⟩ := Y
    have hmg : mg ("law" : PySem.Str) = some (.ref fa) := by
      have e : (HandSHeadRun.topDef (OpenLaw.row PySem.Challenge.rw_hueshade_k01_sides_of_places).prog 16).name = ("law" : PySem.Str) := by kernel_rfl
      rw [← e]
      exact hmg0
    obtain ⟨fd, hb, hF⟩ := Hs.facts (P := (PySem.Challenge.rw_hueshade_k01_sides_of_places).prog) (w := w) KX G hmg c
    exact ⟨K, fd, Hs.spLaw K, KX, hb, fun H a ns hl _ hS => ⟨a, ns, rfl, hS, hl, fun _ => rfl⟩, fun base _ _ => hF base⟩
