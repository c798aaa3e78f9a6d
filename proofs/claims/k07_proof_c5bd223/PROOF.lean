import PyProof.Rows.All
import Wide.All
import OpenK.AllK
import Wide.FinOn
import HandS.EndBits
import HandS.Steps
import HandS.StrMore
import PyProof.Rows.IntBool
import PyProof.Rows.EqBoolInt
import HandS.MakeKw
import HandS.TupMul
import HandS.EndTab
import KE.KNestM
import HandS.HotCalls
import KE.KTryMore
import HandS.ExcValue
import HandS.ExcInit
import HandS.ExcIs
import HandS.ExcField
import PyProof.Rows.Range3
import HandS.FStr
import HandS.ClsMeth
import HandS.Flow
import HandS.SortInts
import HandS.WideBits
import HandS.Conv
import HandS.Star
import HandS.Style
import HandS.Text
import HandS.SuiteRaise
import KE.KCallOwn
import HandS.OwnEq
import HandS.More
import HandS.IsInst
import HandS.Codes
import HandS.Defaults
import PyProof.InstNe
import PyProof.Draws
import PyProof.EnumMake
import PyProof.WalksMore
import HandS.TupAny
import HandS.ReplaceList
import HandS.ForMost
import HandS.Property
import HandS.Lambda
import PyProof.ReprRoads
import PyProof.StrLawsRepr
import HandS.TryOnly
import KE.KIntText
import PyProof.StrLawsTight
import PyProof.StrLawsFirst
import KE.IntTextLaws
import HandS.SetFor
import PySem.Challenge.RW_undotables_k07_commands_of_any_value
set_option Elab.async false
set_option linter.all false
set_option maxRecDepth 100000
set_option maxHeartbeats 8000000
namespace Und
open PySem PySem.Spec PyProof.Rows L2

/-! ### the heap without the pool at p -/
def hid (p : Addr) (H : Hp) : Hp := fun b => if b = p then none else H b
theorem hid_same (p : Addr) (H : Hp) : Same (hid p H) H := fun b o e => by
  unfold hid at e
  by_cases h : b = p
  · rw [if_pos h] at e
    cases e
  · rw [if_neg h] at e
    exact e
theorem hid_ne {p : Addr} {H : Hp} {b : Addr} (h : b ≠ p) : hid p H b = H b := by
  unfold hid
  rw [if_neg h]
theorem hid_mono {p : Addr} {H H' : Hp} (s : Same H H') : Same (hid p H) (hid p H') := fun b o e => by
  unfold hid at e ⊢
  by_cases h : b = p
  · rw [if_pos h] at e
    cases e
  · rw [if_neg h] at e ⊢
    exact s b o e
theorem same_new {H : Hp} {p : Addr} {o : HO} (h : H p = none) : Same H (upd H p o) := fun b x e => by
  rw [upd_ne (ne_of_none e h)]
  exact e
/-- what changes is the pool alone -/
theorem hid_upd {p : Addr} {H : Hp} {o : HO} : Same (hid p H) (hid p (upd H p o)) := fun b x e => by
  unfold hid at e ⊢
  by_cases h : b = p
  · rw [if_pos h] at e
    cases e
  · rw [if_neg h] at e ⊢
    rw [upd_ne h]
    exact e
theorem same_seqT {K : PySem.W.Frag} {H H' : Hp} {a : Addr} {xs : List V} (e : Same H H') (h : SqT K H a xs) : SqT K H' a xs := by
  rcases h with (h | ⟨o, h⟩) | h
  · exact .inl (.inl (e _ _ h))
  · exact .inl (.inr ⟨o, e _ _ h⟩)
  · exact .inr h

theorem cut_ints (ns : List Int) (lo hi : Option Int) : ∃ ms : List Int, cutV (ns.map V.int) lo hi = ms.map V.int := by
  unfold cutV
  simp only [← List.map_drop, ← List.map_take]
  exact ⟨_, rfl⟩
theorem int_at {ns : List Int} {i : Nat} {x : V} (h : (ns.map V.int)[i]? = some x) : ∃ z, x = .int z := by
  rw [List.getElem?_map] at h
  cases e : ns[i]? with
  | none =>
    rw [e] at h
    cases h
  | some z =>
    rw [e] at h
    exact ⟨z, (Option.some.inj h).symm⟩

/-! ### the pool -/
/-- three ints that a draw leaves in their bounds -/
def Pool (H : Hp) (p : Addr) : Prop := ∃ a b c : Int, H p = some (.lst [.int a, .int b, .int c]) ∧ 0 ≤ a ∧ a < 2147483477 ∧ 0 ≤ b
theorem Pool.same {H H' : Hp} {p : Addr} (s : Same H H') (h : Pool H p) : Pool H' p := by
  obtain ⟨a, b, c, e, r⟩ := h
  exact ⟨a, b, c, s _ _ e, r⟩
/-- from H to H' the pool alone was drawn from; new objects may stand -/
structure Stp (p : Addr) (H H' : Hp) : Prop where
  s : Same (hid p H) (hid p H')
  q : Pool H' p
theorem Stp.trans {p : Addr} {H H1 H2 : Hp} (a : Stp p H H1) (b : Stp p H1 H2) : Stp p H H2 := ⟨a.s.trans b.s, b.q⟩
theorem Stp.of {p : Addr} {H H1 : Hp} (q : Pool H p) (s : Same H H1) : Stp p H H1 := ⟨hid_mono s, q.same s⟩
theorem Stp.refl {p : Addr} {H : Hp} (q : Pool H p) : Stp p H H := ⟨Same.refl _, q⟩

section
variable {P : Program} {w : World} {K : PySem.W.Frag} {mg : Str → Option Value} {base : Heap}

/-- a def of the top, by its name -/
structure FD (K : PySem.W.Frag) (mg : Str → Option Value) (x : Str) (st : Stmt) (ps : List Str) (f : Addr) (fd : FuncData) : Prop where
  F : Fun K x x st f fd
  m : mg x = some (.ref f)
  b : Binds K fd ps []
end

section
variable {X : Cx}
/-- f(e, ..) -/
theorem pcall {CX : CXT} {k : Nat} {x : Str} {st : Stmt} {ps : List Str} {f : Addr} {fd : FuncData} {sp : Sp} {E : XK} {e : Expr} {es : List Expr} {t : TA} {p pos : Pos} (D : FD X.K X.mg x st ps f fd) (G : FnOk X.prog X.w X.K X.mg X.base CX k f fd ps sp) (hr : Room k X.A) (hg : Gl X x) (hx : Passes CX X E)
    (ha : PA X (e :: es) t) (hdb : (x == ("__debug__" : Str)) = false := by decide) (he : starEach (e :: es) X.env = (false, eval e X.env) :: starEach es X.env := by rfl) (hpl : (backTo pos (starEach es X.env)).any (·.1) = false := by rfl) :
    PE X (.Call (.Name x p) (e :: es) [] pos) (tCall sp [] E t) := pe_call G hr hg D.m D.F.kp D.b .nil hx ha hdb he hpl
end

/-! ### readings, a step at a time -/
section
variable {K : PySem.W.Frag} {σ : L2.St} {H : Hp} {Q : VK} {D : Ends} {i : Nat} {v x y : V} {ta tb tc te : TE} {t1 t2 ts : TS} {b : Bool}
theorem c_seq (h : t1 { D with nx := t2 D } σ H) : tSeq t1 t2 D σ H := h
theorem c_next (h : D.nx σ H) : tNext D σ H := h
theorem c_asg (h : te σ H fun v H1 => D.nx (σ.set i (some v)) H1) : tAsg te (gName i) D σ H := h
theorem c_asg2 {g : TG} (h : te σ H fun x H1 => g x σ H1 D.nx) : tAsg te g D σ H := h
theorem c_yes {Q : Bool → Hp → Prop} (h : Q true H) : tYes σ H Q := h
theorem c_eq (h : scal x y = true) (q : Q (.bl (decide (x = y))) H) : rEq x y H Q := ⟨h, q⟩
theorem c_neq (h : scal x y = true) (q : Q (.bl (!decide (x = y))) H) : rNe x y H Q := ⟨h, q⟩
theorem c_par {i j : Nat} {t : TA} (h : t σ H fun vs H1 => ∃ v w, vs = [v, w] ∧ D.nx ((σ.set i (some v)).set j (some w)) H1) : tPar i j t D σ H := h
theorem c_two {R : V → V → Prop} (h : R x y) : ∃ v w, [x, y] = [v, w] ∧ R v w := ⟨x, y, rfl, h⟩
theorem c_g {Q : L2.St → Hp → Prop} (h : Q (σ.set i (some v)) H) : gName i v σ H Q := h
theorem c_ret (h : te σ H D.rt) : tRet te D σ H := h
theorem c_drop (h : te σ H fun _ H1 => D.nx σ H1) : tDrop te D σ H := h
theorem c_var (e : σ[i]? = some (some v)) (h : Q v H) : tVar i σ H Q := ⟨v, e, h⟩
theorem c_c (h : Q v H) : tC v σ H Q := h
theorem c_op {r : R2} (h : ta σ H fun x H1 => tb σ H1 fun y H2 => r x y H2 Q) : tOp r ta tb σ H Q := h
theorem c_un {r : V → Hp → VK → Prop} (h : ta σ H fun x H1 => r x H1 Q) : tUn r ta σ H Q := h
theorem c_I0 {g : Int → Int → V} {i j : Int} (h : Q (g i j) H) : rI0 g (.int i) (.int j) H Q := ⟨i, j, rfl, rfl, h⟩
theorem c_I {C : Int → Int → Prop} {g : Int → Int → V} {i j : Int} (c : C i j) (h : Q (g i j) H) : rI C g (.int i) (.int j) H Q := ⟨i, j, rfl, rfl, c, h⟩
theorem c_test {Q : Bool → Hp → Prop} (h : te σ H fun x H' => ∃ k, x = .bl k ∧ Q k H') : tTest te σ H Q := h
theorem c_B {Q : Bool → Hp → Prop} (h : te σ H fun x H' => ∃ k, x = .bl k ∧ Q k H') : tB te σ H Q := h
theorem c_bl {Q : Bool → Prop} (h : Q b) : ∃ k, V.bl b = .bl k ∧ Q k := ⟨b, rfl, h⟩
theorem c_ifs {c : TT} (h : c σ H fun b H1 => if b = true then t1 D σ H1 else t2 D σ H1) : tIfS c t1 t2 D σ H := h
theorem c_ife {c : TT} (h : c σ H fun b H1 => if b = true then ta σ H1 Q else tb σ H1 Q) : tIf c ta tb σ H Q := h
theorem c_andV (h : ta σ H fun x H1 => ∃ c, x = .bl c ∧ if c = true then tb σ H1 Q else Q (.bl false) H1) : tAndV ta tb σ H Q := h
theorem c_orV (h : ta σ H fun x H1 => ∃ c, x = .bl c ∧ if c = true then Q (.bl true) H1 else tb σ H1 Q) : tOrV ta tb σ H Q := h
theorem c_notV (h : ta σ H fun x H1 => ∃ c, x = .bl c ∧ Q (.bl (!c)) H1) : tNotV ta σ H Q := h
theorem c_and {t u : TT} {Q : Bool → Hp → Prop} (h : t σ H fun c H1 => if c = true then u σ H1 Q else Q false H1) : tAnd t u σ H Q := h
theorem c_or {t u : TT} {Q : Bool → Hp → Prop} (h : t σ H fun c H1 => if c = true then Q true H1 else u σ H1 Q) : tOr t u σ H Q := h
theorem c_not {t : TT} {Q : Bool → Hp → Prop} (h : t σ H fun c H1 => Q (!c) H1) : tNot t σ H Q := h
theorem c_call {sp : Sp} {dvs : List V} {E : XK} {t : TA} (h : t σ H fun vs H1 => sp (vs ++ dvs) H1 Q E) : tCall sp dvs E t σ H Q := h
theorem c_cb {r : List V → Hp → VK → Prop} {t : TA} (h : t σ H fun vs H1 => r vs H1 Q) : tCB r t σ H Q := h
theorem c_nil {Q : List V → Hp → Prop} (h : Q [] H) : tNil σ H Q := h
theorem c_cons {t : TA} {Q : List V → Hp → Prop} (h : te σ H fun x H1 => t σ H1 fun xs H2 => Q (x :: xs) H2) : tCons te t σ H Q := h
def rNewT (xs : List V) (H : Hp) (Q : VK) : Prop := xs.length ≤ sizeLine ∧ ∀ p, H p = none → Q (.ref p) (upd H p (.tup xs))
def rNewL (xs : List V) (H : Hp) (Q : VK) : Prop := xs.length ≤ sizeLine ∧ ∀ p, H p = none → Q (.ref p) (upd H p (.lst xs))
theorem c_tup {t : TA} (h : t σ H fun xs H1 => rNewT xs H1 Q) : tTup t σ H Q := h
theorem c_lst {t : TA} (h : t σ H fun xs H1 => rNewL xs H1 Q) : tLst t σ H Q := h
theorem sz {n : Nat} (h : n ≤ 100000) : n ≤ sizeLine := Nat.le_trans h (by decide)
theorem szl {n : Nat} (h : n < 100000) : n < sizeLine := Nat.lt_of_lt_of_le h (by decide)
theorem c_ixL {a : Addr} {xs : List V} {k : Int} (e : SqL K H a xs) (j : Nat) (hk : k = (j : Int)) (hv : xs[j]? = some v) (h : Q v H) : rIxL K (.ref a) (.int k) H Q := ⟨a, xs, k, v, rfl, rfl, e, at_of hk hv, h⟩
theorem c_ixT {a : Addr} {xs : List V} {k : Int} (e : SqT K H a xs) (j : Nat) (hk : k = (j : Int)) (hv : xs[j]? = some v) (h : Q v H) : rIxT K (.ref a) (.int k) H Q := ⟨a, xs, k, v, rfl, rfl, e, at_of hk hv, h⟩
theorem c_gsub {to ti : TE} {t : TSet} {Q : L2.St → Hp → Prop} (h : to σ H fun o H1 => ti σ H1 fun i H2 => t o i v H2 fun H3 => Q σ H3) : gSub to ti t v σ H Q := h
theorem c_gtup {a : Addr} {xs : List V} {n : Nat} {t : TGs} {Q : L2.St → Hp → Prop} (e : SqT K H a xs) (hn : xs.length = n) (h : t xs σ H Q) : gTup K n t (.ref a) σ H Q := ⟨a, xs, rfl, e, hn, h⟩
theorem c_gcons {r : List V} {t : TG} {u : TGs} {Q : L2.St → Hp → Prop} (h : t v σ H fun σ' H' => u r σ' H' Q) : gCons t u (v :: r) σ H Q := ⟨v, r, rfl, h⟩
theorem c_gnil {Q : L2.St → Hp → Prop} (h : Q σ H) : gNil [] σ H Q := ⟨rfl, h⟩
theorem c_setL {a : Addr} {xs : List V} {k : Int} {Q : Hp → Prop} (e : H a = some (.lst xs)) (j : Nat) (hk : ixN xs.length k = some j) (h : Q (upd H a (.lst (xs.set j v)))) : rSetL (.ref a) (.int k) v H Q := ⟨a, xs, k, j, rfl, rfl, e, hk, h⟩
theorem c_newT {xs : List V} (z : xs.length ≤ 100000) (h : ∀ p H2, H p = none → Same H H2 → H2 p = some (.tup xs) → Q (.ref p) H2) : rNewT xs H Q := ⟨sz z, fun p np => h p _ np (same_new np) upd_same⟩
theorem c_newL {xs : List V} (z : xs.length ≤ 100000) (h : ∀ p H2, H p = none → Same H H2 → H2 p = some (.lst xs) → Q (.ref p) H2) : rNewL xs H Q := ⟨sz z, fun p np => h p _ np (same_new np) upd_same⟩
theorem c_slL {a : Addr} {xs : List V} {lo hi : Option Int} (e : SqL K H a xs) (h : ∀ p H2, H p = none → Same H H2 → H2 p = some (.lst (cutV xs lo hi)) → Q (.ref p) H2) : rSlL K (.ref a) lo hi H Q :=
  ⟨a, xs, rfl, e, fun p np => h p _ np (same_new np) upd_same⟩
theorem c_sl {r : V → Option Int → Option Int → Hp → VK → Prop} {tl th : TO} (h : te σ H fun x H1 => tl σ H1 fun l H2 => th σ H2 fun u H3 => r x l u H3 Q) : tSl r te tl th σ H Q := h
theorem c_nop {Q : Option Int → Hp → Prop} (h : Q none H) : tNoPart σ H Q := h
theorem c_part {Q : Option Int → Hp → Prop} (h : te σ H fun x H1 => ∃ i, x = .int i ∧ Q (some i) H1) : tPart te σ H Q := h
theorem c_int {i : Int} {Q : Int → Prop} (h : Q i) : ∃ j, V.int i = .int j ∧ Q j := ⟨i, rfl, h⟩
def rFld (K : PySem.W.Frag) (f : Str) (x : V) (H : Hp) (Q : VK) : Prop := ∃ a C dx fs v, x = .ref a ∧ H a = some (.ins C dx fs) ∧ Cls K C ∧ NoAttr K C f ∧ fs.lookup f = some v ∧ Q v H
theorem c_fld {f : Str} (h : ta σ H fun x H1 => rFld K f x H1 Q) : tFld K ta f σ H Q := h
theorem c_for {wi : TI} {g : TG} {tb : TS} (h : wi σ H fun J H1 => ∃ W : Nat → Nat → L2.St → Hp → Prop, (∃ m, W 0 m σ H1) ∧ ∀ i m σ H, W i m σ H →
  (J.stop i H ∧ D.nx σ H) ∨ (J.go i H ∧ ∃ N : L2.St → Hp → Prop, (∀ σ' H', N σ' H' → ∃ m', m' < m ∧ W (i + 1) m' σ' H') ∧ ∀ x H', J.yld i H x H' → g x σ H' fun σ2 H2 => tb { D with nx := N, ct := N, bk := D.nx } σ2 H2)) : tFor wi g tb D σ H := h
theorem c_ilist {tl : TE} {R : It → Hp → Prop} (h : tl σ H fun x H1 => ∃ a, x = .ref a ∧ (∃ xs, SqL K H1 a xs) ∧ R (Itl K a) H1) : iList K tl σ H R := h
theorem c_itup {tl : TE} {R : It → Hp → Prop} (h : tl σ H fun x H1 => ∃ a, x = .ref a ∧ (∃ xs, SqT K H1 a xs) ∧ R (Itt K a) H1) : iTup K tl σ H R := h
theorem c_irng1 {t : TA} {R : It → Hp → Prop} (h : t σ H fun vs H1 => ∃ j : Int, vs = [.int j] ∧ -(2 ^ 62) ≤ j ∧ j < 2 ^ 62 ∧ R (Itr 0 j.toNat) H1) : iRng1 t σ H R := h
theorem c_lc {wi : TI} {g : TG} {tt : TT} {vs : List Nat} (h : wi σ H fun J H1 => ∀ D, H1 D = none → ∃ W : Nat → Nat → Hp → Prop, (∃ m, W 0 m (upd H1 D (.lst []))) ∧ ∀ i m H, W i m H →
  (J.stop i H ∧ Q (.ref D) H) ∨ (J.go i H ∧ ∃ Nx : Hp → Prop, (∀ H', Nx H' → ∃ m', m' < m ∧ W (i + 1) m' H') ∧ ∀ x H', J.yld i H x H' → g x (wipe σ vs) H' fun σ2 H2 => wipe σ2 vs = wipe σ vs ∧ tt σ2 H2 fun b H3 =>
    if b = true then te σ2 H3 fun y H4 => ∃ acc, H4 D = some (.lst acc) ∧ acc.length < sizeLine ∧ Nx (upd H4 D (.lst (acc ++ [y]))) else Nx H3)) : tLc wi g tt te vs σ H Q := h
end

/-! ### comprehensions that keep all items -/
theorem Stp.mut {p D : Addr} {H1 H4 : Hp} {o : HO} (s : Stp p H1 H4) (nD : H1 D = none) (ne : p ≠ D) : Stp p H1 (upd H4 D o) := by
  refine ⟨fun b u e => ?_, ?_⟩
  · have e4 := s.s b u e
    unfold hid at e e4 ⊢
    by_cases h : b = p
    · rw [if_pos h] at e
      cases e
    · rw [if_neg h] at e e4 ⊢
      rw [upd_ne (ne_of_none e nD)]
      exact e4
  · obtain ⟨a, b, c, e, r⟩ := s.q
    exact ⟨a, b, c, by rw [upd_ne ne]; exact e, r⟩
theorem Same.mut {D : Addr} {H1 H4 : Hp} {o : HO} (s : Same H1 H4) (nD : H1 D = none) : Same H1 (upd H4 D o) := fun b u e => by
  rw [upd_ne (ne_of_none e nD)]
  exact s b u e
theorem Stp.at {p a : Addr} {H H' : Hp} {o : HO} (s : Stp p H H') (e : H a = some o) (ne : p ≠ a) : H' a = some o := by
  have h := s.s a o ((hid_ne ne.symm).trans e)
  rwa [hid_ne ne.symm] at h
theorem Pool.ne {p D : Addr} {H : Hp} (q : Pool H p) (n : H D = none) : p ≠ D := by
  obtain ⟨a, b, c, e, _⟩ := q
  exact ne_of_none e n
/-- what the list of a comprehension holds so far -/
def Acc (R : Nat → V → Prop) (D : Addr) (i : Nat) (H : Hp) : Prop := ∃ xs, H D = some (.lst xs) ∧ xs.length = i ∧ ∀ j y, xs[j]? = some y → R j y
theorem Acc.put {R : Nat → V → Prop} {D : Addr} {i : Nat} {H : Hp} {xs : List V} {y : V} (l : xs.length = i) (h : ∀ j y, xs[j]? = some y → R j y) (r : R i y) : Acc R D (i + 1) (upd H D (.lst (xs ++ [y]))) := by
  refine ⟨_, upd_same, by rw [List.length_append, l]; rfl, fun j z e => ?_⟩
  by_cases hj : j < xs.length
  · rw [List.getElem?_append_left hj] at e
    exact h j z e
  · rw [List.getElem?_append_right (by omega)] at e
    have h0 : j - xs.length = 0 := by
      by_cases h0 : j - xs.length = 0
      · exact h0
      · rw [List.getElem?_eq_none (by show 1 ≤ _; omega)] at e
        cases e
    rw [h0] at e
    have ej : j = i := by omega
    have ey : y = z := Option.some.inj e
    rw [ej, ← ey]
    exact r
abbrev LcW (J : It) (te : TE) (g : TG) (tt : TT) (vs : List Nat) (σ : L2.St) (H1 : Hp) (D : Addr) (Q : Hp → Prop) : Prop := ∃ W : Nat → Nat → Hp → Prop, (∃ m, W 0 m (upd H1 D (.lst []))) ∧ ∀ i m H, W i m H →
      (J.stop i H ∧ Q H) ∨ (J.go i H ∧ ∃ Nx : Hp → Prop, (∀ H', Nx H' → ∃ m', m' < m ∧ W (i + 1) m' H') ∧ ∀ x H', J.yld i H x H' → g x (wipe σ vs) H' fun σ2 H2 => wipe σ2 vs = wipe σ vs ∧ tt σ2 H2 fun b H3 =>
        if b = true then te σ2 H3 fun y H4 => ∃ acc, H4 D = some (.lst acc) ∧ acc.length < sizeLine ∧ Nx (upd H4 D (.lst (acc ++ [y]))) else Nx H3)
section
variable {K : PySem.W.Frag} {te : TE} {i0 n : Nat} {vs : List Nat} {σ : L2.St} {H1 : Hp} {D p a : Addr} {Qd : Hp → Prop} {ys : List V}
/-- over range(n), draws on the way -/
theorem lc_rgP (R : Nat → V → Prop) (pool : Pool H1 p) (nD : H1 D = none) (hn : n ≤ 100000) (hw : ∀ v, wipe ((wipe σ vs).set i0 (some v)) vs = wipe σ vs)
    (hs : ∀ i H (Q' : VK), i < n → Stp p H1 H → (∀ y H4, Stp p H H4 → R i y → Q' y H4) → te ((wipe σ vs).set i0 (some (.int (i : Int)))) H Q')
    (hd : ∀ H xs, Stp p H1 H → H D = some (.lst xs) → xs.length = n → (∀ i y, xs[i]? = some y → R i y) → Qd H) : LcW (Itr 0 n) te (gName i0) tYes vs σ H1 D Qd := by
  have ne := pool.ne nD
  refine lc_range (fun i H => Stp p H1 H ∧ Acc R D i H) ⟨Stp.of pool (same_new nD), [], upd_same, rfl, fun j y e => by simp at e⟩ (fun i H hi h => ?_) (fun H h => ?_)
  · obtain ⟨st, xs, e, l, r⟩ := h
    refine ⟨hw _, c_yes ?_⟩
    rw [if_pos rfl]
    rw [Int.zero_add]
    exact hs i H _ hi st fun y H4 s4 ry => ⟨xs, s4.at e ne, szl (by omega), (st.trans s4).mut nD ne, Acc.put l r ry⟩
  · obtain ⟨st, xs, e, l, r⟩ := h
    exact hd H xs st e l r
/-- over range(n) -/
theorem lc_rg (R : Nat → V → Prop) (nD : H1 D = none) (hn : n ≤ 100000) (hw : ∀ v, wipe ((wipe σ vs).set i0 (some v)) vs = wipe σ vs)
    (hs : ∀ i H (Q' : VK), i < n → Same H1 H → (∀ y H4, Same H H4 → R i y → Q' y H4) → te ((wipe σ vs).set i0 (some (.int (i : Int)))) H Q')
    (hd : ∀ H xs, Same H1 H → H D = some (.lst xs) → xs.length = n → (∀ i y, xs[i]? = some y → R i y) → Qd H) : LcW (Itr 0 n) te (gName i0) tYes vs σ H1 D Qd := by
  refine lc_range (fun i H => Same H1 H ∧ Acc R D i H) ⟨same_new nD, [], upd_same, rfl, fun j y e => by simp at e⟩ (fun i H hi h => ?_) (fun H h => ?_)
  · obtain ⟨st, xs, e, l, r⟩ := h
    refine ⟨hw _, c_yes ?_⟩
    rw [if_pos rfl]
    rw [Int.zero_add]
    exact hs i H _ hi st fun y H4 s4 ry => ⟨xs, s4 _ _ e, szl (by omega), Same.mut (st.trans s4) nD, Acc.put l r ry⟩
  · obtain ⟨st, xs, e, l, r⟩ := h
    exact hd H xs st e l r
/-- over a list -/
theorem lc_ls (R : Nat → V → Prop) (nD : H1 D = none) (hn : ys.length ≤ 100000) (hA : SqL K H1 a ys) (hw : ∀ v, wipe ((wipe σ vs).set i0 (some v)) vs = wipe σ vs)
    (hs : ∀ i x H (Q' : VK), ys[i]? = some x → Same H1 H → (∀ y H4, Same H H4 → R i y → Q' y H4) → te ((wipe σ vs).set i0 (some x)) H Q')
    (hd : ∀ H xs, Same H1 H → H D = some (.lst xs) → xs.length = ys.length → (∀ i y, xs[i]? = some y → R i y) → Qd H) : LcW (Itl K a) te (gName i0) tYes vs σ H1 D Qd := by
  refine lc_list (xs := ys) (fun i H => Same H1 H ∧ Acc R D i H) ⟨same_new nD, [], upd_same, rfl, fun j y e => by simp at e⟩ (fun i H _ h => h.1.seq hA) (fun i x H hi h => ?_) (fun H h => ?_)
  · obtain ⟨st, xs, e, l, r⟩ := h
    refine ⟨hw _, c_yes ?_⟩
    rw [if_pos rfl]
    have hl := (List.getElem?_eq_some_iff.mp hi).1
    exact hs i x H _ hi st fun y H4 s4 ry => ⟨xs, s4 _ _ e, szl (by omega), Same.mut (st.trans s4) nD, Acc.put l r ry⟩
  · obtain ⟨st, xs, e, l, r⟩ := h
    exact hd H xs st e l r
/-- over a tuple -/
theorem lc_tp (R : Nat → V → Prop) (nD : H1 D = none) (hn : ys.length ≤ 100000) (hA : SqT K H1 a ys) (hw : ∀ v, wipe ((wipe σ vs).set i0 (some v)) vs = wipe σ vs)
    (hs : ∀ i x H (Q' : VK), ys[i]? = some x → Same H1 H → (∀ y H4, Same H H4 → R i y → Q' y H4) → te ((wipe σ vs).set i0 (some x)) H Q')
    (hd : ∀ H xs, Same H1 H → H D = some (.lst xs) → xs.length = ys.length → (∀ i y, xs[i]? = some y → R i y) → Qd H) : LcW (Itt K a) te (gName i0) tYes vs σ H1 D Qd := by
  refine lc_tup (xs := ys) (fun i H => Same H1 H ∧ Acc R D i H) ⟨same_new nD, [], upd_same, rfl, fun j y e => by simp at e⟩ (fun i H _ h => same_seqT h.1 hA) (fun i x H hi h => ?_) (fun H h => ?_)
  · obtain ⟨st, xs, e, l, r⟩ := h
    refine ⟨hw _, c_yes ?_⟩
    rw [if_pos rfl]
    have hl := (List.getElem?_eq_some_iff.mp hi).1
    exact hs i x H _ hi st fun y H4 s4 ry => ⟨xs, s4 _ _ e, szl (by omega), Same.mut (st.trans s4) nD, Acc.put l r ry⟩
  · obtain ⟨st, xs, e, l, r⟩ := h
    exact hd H xs st e l r
end
/-- a list whose items are all texts of a kind -/
theorem strs_of {xs : List V} {A : Str → Prop} (h : ∀ (i : Nat) y, xs[i]? = some y → ∃ z, y = V.str z ∧ A z) : ∃ ns : List Str, xs = ns.map V.str ∧ ∀ z ∈ ns, A z := by
  induction xs with
  | nil => exact ⟨[], rfl, fun z hz => by cases hz⟩
  | cons x r ih =>
    obtain ⟨z, rfl, hz⟩ := h 0 x rfl
    obtain ⟨ns, rfl, hn⟩ := ih fun i y e => h (i + 1) y e
    exact ⟨z :: ns, rfl, fun u hu => by
      rcases List.mem_cons.mp hu with e | e
      · rw [e]; exact hz
      · exact hn u e⟩
end Und
namespace Und
open PySem PySem.Spec PyProof.Rows L2
/-! ### letters -/
/-- all signs are letters a to z -/
def Low (x : Str) : Prop := ∀ c ∈ x.cps.toList, 97 ≤ c ∧ c ≤ 122
structure IsName (x : Str) : Prop where
  lo : 1 ≤ x.length
  hi : x.length ≤ 8
  low : Low x
def nameB (x : Str) : Bool := decide (1 ≤ x.length) && decide (x.length ≤ 8) && x.cps.toList.all fun c => decide (97 ≤ c) && decide (c ≤ 122)
theorem nameB_iff (x : Str) : nameB x = true ↔ IsName x := by
  unfold nameB
  simp only [Bool.and_eq_true, decide_eq_true_eq, List.all_eq_true]
  exact ⟨fun h => ⟨h.1.1, h.1.2, h.2⟩, fun h => ⟨⟨h.lo, h.hi⟩, h.low⟩⟩
theorem name_of {x : Str} (h : nameB x = true) : IsName x := (nameB_iff x).mp h
theorem len_codes (x : Str) : x.cps.toList.length = x.length := Array.length_toList
theorem low_app {x y : Str} (hx : Low x) (hy : Low y) : Low (x ++ y) := fun c hc => by
  rw [PySem.Str.cps_append, Array.toList_append] at hc
  rcases List.mem_append.mp hc with h | h
  · exact hx c h
  · exact hy c h
theorem low_cut {x : Str} {lo hi : Option Int} (hx : Low x) : Low (cutS x lo hi) := fun c hc => by
  unfold cutS at hc
  exact hx c (List.mem_of_mem_drop (List.mem_of_mem_take hc))
theorem low_one {c : Nat} (h : 97 ≤ c ∧ c ≤ 122) : Low ⟨#[c]⟩ := fun d hd => by
  have : d = c := by simpa using hd
  rw [this]
  exact h
theorem cut_len (x : Str) (k : Nat) (h : k ≤ x.length) : (cutS x none (some (k : Int))).length = k ∧ (cutS x (some (k : Int)) none).length = x.length - k := by
  unfold cutS
  rw [HT.sIx_none, HT.sIx_nat, HT.sIx_none]
  constructor
  · show (List.toArray _).size = k
    rw [List.size_toArray, List.length_take, List.length_drop, len_codes]
    omega
  · have e := HT.sIx_nat x.length 0 k
    show (List.toArray _).size = x.length - k
    rw [List.size_toArray, List.length_take, List.length_drop, len_codes, e]
    omega
theorem rep_fold (a : Array Nat) : ∀ (n : Nat) (acc : Array Nat), (List.replicate n a).foldl (· ++ ·) acc = acc ++ ((List.replicate n a.toList).flatten).toArray
  | 0, acc => by simp
  | n + 1, acc => by
    rw [List.replicate_succ, List.foldl_cons, rep_fold a n, List.replicate_succ, List.flatten_cons]
    apply Array.toList_inj.mp
    simp
theorem mul_one_codes (c : Nat) (n : Nat) (h : 1 ≤ n) : (Txt.mul ⟨#[c]⟩ (n : Int)).cps.toList = List.replicate n c := by
  unfold Txt.mul
  rw [if_neg (by omega)]
  by_cases h1 : n = 1
  · subst h1
    rw [if_pos (by rfl)]
    rfl
  · rw [if_neg (by
      have : ¬ (n : Int) = 1 := by omega
      simp [Str.length, this])]
    show ((List.replicate ((n : Int).toNat) #[c]).foldl (· ++ ·) #[]).toList = _
    rw [Int.toNat_natCast, rep_fold]
    simp
theorem mul_ok (c : Nat) (n : Nat) (h : n ≤ 1000) : MulOk ⟨#[c]⟩ (n : Int) := by
  refine ⟨?_, fun h1 _ => ?_, fun h1 _ => ?_⟩
  · have e1 : decide ((n : Int) < -(2 ^ 63 : Int)) = false := decide_eq_false (by omega)
    have e2 : decide ((n : Int) ≥ 2 ^ 63) = false := decide_eq_false (by omega)
    rw [e1, e2]
    rfl
  · have e : ((⟨#[c]⟩ : Str).length : Int) = 1 := rfl
    rw [e]
    have : (1 : Int) ≤ (2 ^ 63 - 1) / (n : Int) := by
      rw [Int.le_ediv_iff_mul_le (by omega)]
      omega
    omega
  · have e : (⟨#[c]⟩ : Str).length = 1 := rfl
    rw [e, Int.toNat_natCast, Nat.one_mul]
    unfold Builtin.Str.tooLong
    apply decide_eq_false
    have := sz (n := n) (by omega)
    omega
theorem rep_name {c n : Nat} (h : 97 ≤ c ∧ c ≤ 122) (h1 : 1 ≤ n) (h8 : n ≤ 8) : IsName (Txt.mul ⟨#[c]⟩ (n : Int)) := by
  have e := mul_one_codes c n h1
  have l : (Txt.mul ⟨#[c]⟩ (n : Int)).length = n := by rw [← len_codes, e, List.length_replicate]
  refine ⟨by omega, by omega, fun d hd => ?_⟩
  rw [e] at hd
  rw [List.eq_of_mem_replicate hd]
  exact h
def rMulS : R2 := fun x y H Q => ∃ z n, x = .str z ∧ y = .int n ∧ MulOk z n ∧ Q (.str (Txt.mul z n)) H
theorem op_mulS {X : Cx} : OpR X (binaryOp .Mult) rMulS := by
  intro pins s σ H x y v u Q I rx ry h
  obtain ⟨i, j, rfl, rfl, hz, q⟩ := h
  obtain ⟨t, rfl⟩ := rx
  obtain ⟨t', rfl⟩ := ry
  exact SB.mul hz (fun t' tk => ⟨.str (Txt.mul i j), H, I.tok _, ⟨_, rfl⟩, q⟩)
theorem glueL_nil : ∀ ys : List Str, StrLaws.glueL [] ys = (ys.map (·.cps.toList)).flatten
  | [] => rfl
  | p :: r => by
    show [] ++ (p.cps.toList ++ StrLaws.glueL [] r) = _
    rw [glueL_nil r]
    simp
theorem join_empty_codes (ys : List Str) : (Txt.join Str.empty ys).cps.toList = (ys.map (·.cps.toList)).flatten := by
  cases ys with
  | nil => rfl
  | cons p r =>
    show (PySem.Builtin.Str.glued Str.empty (p :: r)).cps.toList = _
    rw [StrLaws.glued_list]
    show p.cps.toList ++ StrLaws.glueL [] r = _
    rw [glueL_nil]
    simp
/-- what '' joins out of single letters -/
theorem join_ones {ns : List Str} (h : ∀ z ∈ ns, ∃ c, z = ⟨#[c]⟩ ∧ 97 ≤ c ∧ c ≤ 122) : (Txt.join Str.empty ns).length = ns.length ∧ Low (Txt.join Str.empty ns) := by
  have e := join_empty_codes ns
  constructor
  · rw [← len_codes, e]
    clear e
    induction ns with
    | nil => rfl
    | cons z r ih =>
      obtain ⟨c, rfl, _⟩ := h _ List.mem_cons_self
      have := ih fun z hz => h z (List.mem_cons_of_mem _ hz)
      simp only [List.map_cons, List.flatten_cons, List.length_append, List.length_cons, this]
      simp
      omega
  · intro d hd
    rw [e] at hd
    obtain ⟨l, hl, hd⟩ := List.mem_flatten.mp hd
    obtain ⟨z, hz, rfl⟩ := List.mem_map.mp hl
    obtain ⟨c, rfl, hc⟩ := h z hz
    have : d = c := by simpa using hd
    rw [this]
    exact hc
theorem sum_ones {ns : List Str} (h : ∀ z ∈ ns, ∃ c, z = ⟨#[c]⟩ ∧ 97 ≤ c ∧ c ≤ 122) : (ns.map (·.length)).sum = ns.length := by
  induction ns with
  | nil => rfl
  | cons z r ih =>
    obtain ⟨c, rfl, _⟩ := h _ List.mem_cons_self
    have := ih fun z hz => h z (List.mem_cons_of_mem _ hz)
    rw [List.map_cons, List.sum_cons, this, List.length_cons]
    show 1 + _ = _
    omega
end Und
namespace Und
open PySem PySem.Spec PyProof.Rows L2
/-! ### the rules with the written part named -/
section
variable {X : Cx} {K : PySem.W.Frag}
theorem ixL (h : X.K = K := by rfl) : IxR X (rIxL K) := h ▸ ix_list
theorem ixT (h : X.K = K := by rfl) : IxR X (rIxT K) := h ▸ ix_tup
theorem slL (h : X.K = K := by rfl) : SlR X (rSlL K) := h ▸ sl_list
theorem slT (h : X.K = K := by rfl) : SlR X (rSlA K) := h ▸ sl_tupA
theorem opCatT (h : X.K = K := by rfl) : OpR X (binaryOp .Add) (rCatA K) := h ▸ op_catA
def rLn (K : PySem.W.Frag) : List V → Hp → VK → Prop := fun xs H Q => ∃ p ys, xs = [.ref p] ∧ (SqL K H p ys ∨ SqT K H p ys) ∧ Q (.int ys.length) H
theorem callLn (h : X.K = K := by rfl) : CallR X (.builtin "len") (rLn K) := h ▸ call_len_seq
def rLnS : List V → Hp → VK → Prop := fun xs H Q => ∃ z, xs = [.str z] ∧ z.length ≤ sizeLine ∧ Q (.int z.length) H
theorem callLnS : CallR X (.builtin "len") rLnS := call_len_str
theorem crAll (hc : X.calm = true) (h : X.K = K := by rfl) : CallR X (.builtin "all") (rAll K) := h ▸ cr_all hc
theorem crAny (hc : X.calm = true) (h : X.K = K := by rfl) : CallR X (.builtin "any") (rAny K) := h ▸ cr_any hc
def rTupOf (K : PySem.W.Frag) : List V → Hp → VK → Prop := fun xs H Q => ∃ p ys, xs = [.ref p] ∧ ((SqL K H p ys ∧ ∀ l, H l = none → Q (.ref l) (upd H l (.tup ys))) ∨ (SqT K H p ys ∧ Q (.ref p) H))
theorem callTupOf (h : X.K = K := by rfl) : CallR X (.type "tuple") (rTupOf K) := h ▸ call_tuple_of
def rLstOf (K : PySem.W.Frag) : List V → Hp → VK → Prop := fun xs H Q => ∃ p ys, xs = [.ref p] ∧ (SqL K H p ys ∨ SqT K H p ys) ∧ ∀ l, H l = none → Q (.ref l) (upd H l (.lst ys))
theorem callLstOf (h : X.K = K := by rfl) : CallR X (.type "list") (rLstOf K) := h ▸ call_list_of
def rMin2 : List V → Hp → VK → Prop := fun xs H Q => ∃ i j, xs = [.int i, .int j] ∧ Q (.int (if j < i then j else i)) H
theorem callMin2 (hc : X.calm = true) : CallR X (.builtin "min") rMin2 := call_min2 hc
def rMax2 : List V → Hp → VK → Prop := fun xs H Q => ∃ i j, xs = [.int i, .int j] ∧ Q (.int (if j > i then j else i)) H
theorem callMax2 (hc : X.calm = true) : CallR X (.builtin "max") rMax2 := call_max2 hc
theorem opIn (h : X.K = K := by rfl) : OpR X (compareOp .In) (rIn K false) := h ▸ op_in_seq
theorem opNotIn (h : X.K = K := by rfl) : OpR X (compareOp .NotIn) (rIn K true) := h ▸ op_notIn_seq
theorem opEqD (hu : X.A.units + 64 < cLine) (h : X.K = K := by rfl) : OpR X (compareOp .Eq) (rEqD K) := h ▸ op_eqD hu
theorem opNeD (hu : X.A.units + 64 < cLine) (h : X.K = K := by rfl) : OpR X (compareOp .NotEq) (rNeD K) := h ▸ op_neD hu
theorem piList {tg l : Expr} {tl : TE} (hl : PE X l tl) (h : X.K = K := by rfl) : PI X tg l (iList K tl) := h ▸ pi_list hl
theorem piTup {tg l : Expr} {tl : TE} (hl : PE X l tl) (h : X.K = K := by rfl) : PI X tg l (iTup K tl) := h ▸ pi_tup hl
theorem peFld {e : Expr} {f : Str} {pos : Pos} {ta : TE} (he : PE X e ta) (hb : attributeBase e f X.env (eval e X.env) = eval e X.env) (h : X.K = K := by rfl) : PE X (.Attribute e f pos) (tFld K ta f) := h ▸ pe_fld he hb
def rJoin (K : PySem.W.Frag) : V → List V → Hp → VK → Prop := fun x xs H Q => ∃ a p, ∃ ys : List Str, x = .str a ∧ xs = [.ref p] ∧ (SqL K H p (ys.map V.str) ∨ SqT K H p (ys.map V.str)) ∧ (ys.map (·.length)).sum + ys.length * a.length ≤ 16777216 ∧ Q (.str (Txt.join a ys)) H
theorem peJoin {o e : Expr} {to te : TE} {apos pos : Pos} (ho : PE X o to) (he : PE X e te) (h : X.K = K := by rfl) (hs : starEach [e] X.env = [(false, eval e X.env)] := by rfl) (hbase : attributeBase o "join" X.env (eval o X.env) = eval o X.env := by rfl) (hline : (apos.endLine == pos.line) = true := by rfl) :
    PE X (.Call (.Attribute o "join" apos) [e] [] pos) (tM1 (rJoin K) to te) := h ▸ pe_join ho he hs hbase hline
theorem pgTup {es : List Expr} {k : Nat} {t : TGs} {n : Nat} {pos : Pos} (hc : X.calm = true) (ht : PGs X es t) (h : X.K = K := by rfl) (hn : (assignEach es X.env).length = n := by rfl) (hst : (assignEach es X.env).findIdx? (·.1) = none := by rfl) :
    PG X (.Tuple es k pos) (gTup K n t) := h ▸ pg_tup hc ht hn hst
end
section
variable {K : PySem.W.Frag} {σ : L2.St} {H : Hp} {Q : VK} {v : V} {p a b : Addr} {xs ys : List V} {lo hi : Option Int} {ta tb : TE}
theorem c_lnL (e : SqL K H p ys) (h : Q (.int ys.length) H) : rLn K [.ref p] H Q := ⟨p, ys, rfl, .inl e, h⟩
theorem c_lnT (e : SqT K H p ys) (h : Q (.int ys.length) H) : rLn K [.ref p] H Q := ⟨p, ys, rfl, .inr e, h⟩
theorem c_lnS {z : Str} (e : z.length ≤ 100000) (h : Q (.int z.length) H) : rLnS [.str z] H Q := ⟨z, rfl, sz e, h⟩
theorem c_all {bs : List Bool} (e : SqL K H p (bs.map V.bl)) (h : Q (.bl (bs.all id)) H) : rAll K [.ref p] H Q := ⟨p, bs, rfl, e, h⟩
theorem c_any {bs : List Bool} (e : SqL K H p (bs.map V.bl)) (h : Q (.bl (bs.any id)) H) : rAny K [.ref p] H Q := ⟨p, bs, rfl, e, h⟩
theorem c_tupOfL (e : SqL K H p ys) (h : ∀ l H2, H l = none → Same H H2 → H2 l = some (.tup ys) → Q (.ref l) H2) : rTupOf K [.ref p] H Q := ⟨p, ys, rfl, .inl ⟨e, fun l nl => h l _ nl (same_new nl) upd_same⟩⟩
theorem c_tupOfT (e : SqT K H p ys) (h : Q (.ref p) H) : rTupOf K [.ref p] H Q := ⟨p, ys, rfl, .inr ⟨e, h⟩⟩
theorem c_lstOfL (e : SqL K H p ys) (h : ∀ l H2, H l = none → Same H H2 → H2 l = some (.lst ys) → Q (.ref l) H2) : rLstOf K [.ref p] H Q := ⟨p, ys, rfl, .inl e, fun l nl => h l _ nl (same_new nl) upd_same⟩
theorem c_lstOfT (e : SqT K H p ys) (h : ∀ l H2, H l = none → Same H H2 → H2 l = some (.lst ys) → Q (.ref l) H2) : rLstOf K [.ref p] H Q := ⟨p, ys, rfl, .inr e, fun l nl => h l _ nl (same_new nl) upd_same⟩
theorem c_min2 {i j : Int} (h : Q (.int (min i j)) H) : rMin2 [.int i, .int j] H Q := ⟨i, j, rfl, by
  have e : (if j < i then j else i) = min i j := by
    split <;> omega
  rw [e]
  exact h⟩
theorem c_max2 {i j : Int} (h : Q (.int (max i j)) H) : rMax2 [.int i, .int j] H Q := ⟨i, j, rfl, by
  have e : (if j > i then j else i) = max i j := by
    split <;> omega
  rw [e]
  exact h⟩
/-- t + u of tuples: some tuple, the left, the right or a new one -/
theorem c_catT (ea : SqT K H a xs) (eb : SqT K H b ys) (z : xs.length + ys.length ≤ 100000) (h : ∀ p H2, Same H H2 → SqT K H2 p (xs ++ ys) → Q (.ref p) H2) : rCatA K (.ref a) (.ref b) H Q := by
  refine ⟨a, b, xs, ys, rfl, rfl, ea, eb, sz z, fun e => h b H (Same.refl H) ?_, fun _ e => h a H (Same.refl H) ?_, fun _ _ p np => h p _ (same_new np) (.inl (.inl upd_same))⟩
  · rw [e]
    exact eb
  · rw [e, List.append_nil]
    exact ea
theorem cutV_whole {xs : List V} (h : HT.sIx xs.length 0 lo = 0 ∧ HT.sIx xs.length xs.length hi = xs.length) : cutV xs lo hi = xs := by
  unfold cutV
  rw [h.1, h.2, List.drop_zero, Nat.sub_zero, List.take_length]
theorem c_slT (e : SqT K H a xs) (h : ∀ p H2, Same H H2 → SqT K H2 p (cutV xs lo hi) → Q (.ref p) H2) : rSlA K (.ref a) lo hi H Q := by
  refine ⟨a, xs, rfl, e, fun w => h a H (Same.refl H) ?_, fun _ p np => h p _ (same_new np) (.inl (.inl upd_same))⟩
  rw [cutV_whole w]
  exact e
theorem c_ixS {z : Str} {k : Int} {c : Nat} (hz : z.length ≤ 100000) (j : Nat) (hk : k = (j : Int)) (hc : z.cps.toList[j]? = some c) (h : Q (.str ⟨#[c]⟩) H) : rIxS (.str z) (.int k) H Q :=
  ⟨z, k, c, rfl, rfl, sz hz, by rw [hk]; exact atI_nat hc, h⟩
theorem c_slS {z : Str} (hz : z.length ≤ 100000) (h : Q (.str (cutS z lo hi)) H) : rSlS (.str z) lo hi H Q := ⟨z, rfl, sz hz, h⟩
theorem c_mulS {z : Str} {n : Int} (hz : MulOk z n) (h : Q (.str (Txt.mul z n)) H) : rMulS (.str z) (.int n) H Q := ⟨z, n, rfl, rfl, hz, h⟩
theorem c_m1 {r : V → List V → Hp → VK → Prop} (h : ta σ H fun x H1 => (∃ a, x = .str a) ∧ tb σ H1 fun y H2 => r x [y] H2 Q) : tM1 r ta tb σ H Q := h
theorem c_isS {z : Str} {R : Prop} (h : R) : (∃ a, V.str z = .str a) ∧ R := ⟨⟨z, rfl⟩, h⟩
theorem c_joinL {z : Str} {ns : List Str} (e : SqL K H p (ns.map V.str)) (hz : (ns.map (·.length)).sum + ns.length * z.length ≤ 16777216) (h : Q (.str (Txt.join z ns)) H) : rJoin K (.str z) [.ref p] H Q := ⟨z, p, ns, rfl, rfl, .inl e, hz, h⟩
def rAddS : R2 := fun x y H Q => ∃ i j, x = .str i ∧ y = .str j ∧ i.length + j.length ≤ sizeLine ∧ Q (.str (i ++ j)) H
theorem opAddS {X : Cx} : OpR X (binaryOp .Add) rAddS := op_add_str
theorem c_addS {x y : Str} (hz : x.length + y.length ≤ 100000) (h : Q (.str (x ++ y)) H) : rAddS (.str x) (.str y) H Q := ⟨x, y, rfl, rfl, sz hz, h⟩
end
end Und
/-! enumerate over a tuple -/
namespace Und
open PySem PySem.Spec PyProof.Rows L2
section
variable {prog : Program} {w : World} {A : Around} {E : Value → Shared → Prop} {s : Shared}
/-- the next item of a tuple's iterator, asked by another builtin -/
theorem next_tup {it t : Addr} {i : Nat} {its : Array Value} {x : Value} {Q : Value → Shared → Prop} (hi : s.heap.IsTupleIter it t i) (ht : s.heap.IsTuple t its) (hx : its[i]? = some x)
    (q : ∀ h', h'.IsTupleIter it t (i + 1) → Heap.SameBut it s.heap h' → Q x { s with heap := h' }) : wpAny (model prog w) A (Builtin.SmallTypes.nextOf (.ref it)) Q E s := by
  obtain ⟨oi, gi, ci, di⟩ := id hi
  obtain ⟨ot, gt, _, nt, dt⟩ := ht
  unfold Builtin.SmallTypes.nextOf
  refine wpAny_bind (wpAny_callSpecial?_slot (name := Str.ofString "__next__") hi.typeIs F.slot_tuple_iterator_next (wpAny_call_entry F.slot_tuple_iterator_next hi.typeIs F.entry_tuple_iterator_next ?_ (F.args_tuple_iterator_next_1 _)))
  show wpAny _ _ (field (.ref it) 0 >>= _) _ _ s
  refine wpAny_bind (wpAny_field gi di (x := .ref t) rfl ?_)
  show wpAny _ _ (if (Value.ref t == Value.none) = true then _ else _) _ _ s
  rw [if_neg (show ¬ ((Value.ref t == Value.none) = true) from Bool.false_ne_true)]
  show wpAny _ _ (field (.ref it) 1 >>= _) _ _ s
  refine wpAny_bind (wpAny_field gi di (x := .int i 0) rfl ?_)
  show wpAny _ _ (seqItems? (.ref t) >>= _) _ _ s
  refine wpAny_bind (wpAny_seqItems gt dt ?_)
  simp only [Int.toNat_natCast, hx]
  refine wpAny_bind (wpAny_setField gi di (by simp) (wpAny_pure ⟨x, rfl, wpAny_pure (q _ ⟨_, Heap.get?_update_self _ gi (Obj.isFreed_of_fields (Obj.data_mapFields di _)), (Obj.cls_mapFields ..).trans ci, ?_⟩ (Heap.SameBut.update ..))⟩))
  rw [Obj.data_mapFields di]
  simp [rawInt]
theorem next_tup_end {it t : Addr} {i : Nat} {its : Array Value} {Q : Value → Shared → Prop} (hh : A.handled = none) (hi : s.heap.IsTupleIter it t i) (ht : s.heap.IsTuple t its) (hx : its[i]? = none)
    (q : ∀ h' e, Heap.ExtBut it s.heap h' → (∃ o, h'.get? e = some o ∧ o.cls = .type "StopIteration") → E (.ref e) { s with heap := h' }) : wpAny (model prog w) A (Builtin.SmallTypes.nextOf (.ref it)) Q E s := by
  obtain ⟨oi, gi, ci, di⟩ := id hi
  obtain ⟨ot, gt, _, nt, dt⟩ := ht
  unfold Builtin.SmallTypes.nextOf
  refine wpAny_bind (wpAny_callSpecial?_slot (name := Str.ofString "__next__") hi.typeIs F.slot_tuple_iterator_next (wpAny_call_entry F.slot_tuple_iterator_next hi.typeIs F.entry_tuple_iterator_next ?_ (F.args_tuple_iterator_next_1 _)))
  show wpAny _ _ (field (.ref it) 0 >>= _) _ _ s
  refine wpAny_bind (wpAny_field gi di (x := .ref t) rfl ?_)
  show wpAny _ _ (if (Value.ref t == Value.none) = true then _ else _) _ _ s
  rw [if_neg (show ¬ ((Value.ref t == Value.none) = true) from Bool.false_ne_true)]
  show wpAny _ _ (field (.ref it) 1 >>= _) _ _ s
  refine wpAny_bind (wpAny_field gi di (x := .int i 0) rfl ?_)
  show wpAny _ _ (seqItems? (.ref t) >>= _) _ _ s
  refine wpAny_bind (wpAny_seqItems gt dt ?_)
  simp only [Int.toNat_natCast, hx]
  refine wpAny_bind (wpAny_rule (wpAny_bind (wpAny_setField gi di (by simp) ?_)))
  show wpAny _ _ (newExc (.type "StopIteration") [] >>= _) _ _ _
  refine wpAny_bind ?_
  simp only [newExc, newTuple]
  refine wpAny_bind (wpAny_newObj_type ?_ (by size_fits))
  refine wpAny_bind (m := firstArgMember _ _) (wpAny_of_eq (a := Value.none) (by first | rfl | (simp only [firstArgMember]; rfl)) ?_)
  refine wpAny_newObj_type ?_ (by size_fits)
  simp only [raiseNew]
  refine wpAny_bind (wpAny_handled ?_)
  first | rw [show A.in1.handled = none from hh] | rw [hh]
  refine wpAny_bind (wpAny_pure (wpAny_throw ?_))
  exact q _ _ (((Heap.SameBut.update ..).extBut.push _).push _) ⟨_, Heap.get?_push_size _ rfl, rfl⟩
/-- a tuple's iterator is drawn from -/
theorem draws_tup (hh : A.handled = none) (it t : Addr) (ne : t ≠ it) (its : Array Value) : Draws prog w A it [it, t] its.size (fun i v => its[i]? = some v) (fun i h => h.IsTupleIter it t i ∧ h.IsTuple t its) where
  live := fun _ _ st => let ⟨o, ho, _⟩ := st.1; ⟨o, ho⟩
  frame := fun _ _ _ st k => ⟨st.1.at fun o e => k it (by simp) o e, let ⟨o, ho, r⟩ := st.2; ⟨o, k t (by simp) o ho, r⟩⟩
  item := fun i s Q E hi st q => next_tup st.1 st.2 (x := its[i]) (by simp [hi]) fun h' i' sb => q _ h' s.toks (by simp [hi]) ⟨i', st.2.extBut sb.extBut ne⟩ sb
  done := fun s Q E st q => next_tup_end hh st.1 st.2 (by simp) q
end
theorem meets_enum_tup (l : Addr) (items : Array Value) (n : Nat) (dct : Option Addr) (sl : Array (Option Value)) :
    Meets (Builtin.«enumerate.__new__» ⟨[.type "enumerate", .ref l], []⟩) (fun _ R s => s.heap.get? l = some { cls := .type "tuple", dict := dct, data := .seq items n, slots := sl } ∧
      R (.ok (.ret (.ref (s.heap.push { cls := .type "tuple_iterator", data := .fields #[.ref l, .int 0 0] }).objs.size)))
        { s with heap := (s.heap.push { cls := .type "tuple_iterator", data := .fields #[.ref l, .int 0 0] }).push { cls := .type "enumerate", data := .fields #[.none, .bool false, .ref s.heap.objs.size, rawInt 0, .none, .none] } }) :=
  .of_wp fun prog w A R s h => by
    obtain ⟨hp, g, d, tk, os⟩ := s
    obtain ⟨hl, h⟩ := h
    have hsub := sub_enumerate
    have hL : Heap.IsTuple (Shared.heap ⟨hp, g, d, tk, os⟩) l items := ⟨_, hl, rfl, n, rfl⟩
    wp_walk using AutoSeq1.wpAny_loadPart' hl
    refine wpAny_stack_any fun st => wpAny_pure ?_
    split
    · rename_i c _ _ _ _ _
      cases (c == Value.type "enumerate") <;> (wp_walk using AutoSeq1.wpAny_loadPart' hl, wpAny_pyIter_tuple hL; exact ⟨_, rfl, h⟩)
    · wp_walk using AutoSeq1.wpAny_loadPart' hl, wpAny_pyIter_tuple hL
      exact ⟨_, rfl, h⟩

section
variable {prog : Program} {w : World} {A : Around} {E : Value → Shared → Prop} {s : Shared}
theorem call_enum_tup {t : Addr} {its : Array Value} {Q : Value → Shared → Prop} (ht : s.heap.IsTuple t its)
    (h : ∀ h', IsEnum h' (s.heap.objs.size + 1) s.heap.objs.size 0 .none → h'.IsTupleIter s.heap.objs.size t 0 → (∀ b o, s.heap.get? b = some o → h'.get? b = some o) → Q (.ref (s.heap.objs.size + 1)) { s with heap := h' }) :
    wpAny (model prog w) A (call (.type "enumerate") [.ref t]) Q E s := by
  obtain ⟨⟨c, dc, dt, sl⟩, gt, ct, n, dd⟩ := ht
  replace ct : c = .type "tuple" := ct
  replace dd : dt = .seq its n := dd
  subst ct dd
  refine callType_new F.called_enumerate (by decide) (F.typeCall_enumerate_1 _) (F.newCall_enumerate_1 _) (fun obj => F.args_object_init_2 obj _) F.entry_enumerate_new (meets_enum_tup t its n dc sl) ⟨gt, ?_⟩
  have z : (s.heap.push { cls := .type "tuple_iterator", data := .fields #[.ref t, .int 0 0] }).objs.size = s.heap.objs.size + 1 := Heap.size_push ..
  show _ ∧ _
  rw [z]
  have e : IsEnum ((s.heap.push { cls := .type "tuple_iterator", data := .fields #[.ref t, .int 0 0] }).push { cls := .type "enumerate", data := .fields #[.none, .bool false, .ref s.heap.objs.size, rawInt 0, .none, .none] })
      (s.heap.objs.size + 1) s.heap.objs.size 0 .none := by
    have e0 := Heap.get?_push_size (s.heap.push { cls := .type "tuple_iterator", data := .fields #[.ref t, .int 0 0] }) (o := { cls := .type "enumerate", data := .fields #[.none, .bool false, .ref s.heap.objs.size, rawInt 0, .none, .none] }) rfl
    rw [z] at e0
    exact e0
  exact ⟨⟨_, e, rfl⟩, h _ e ⟨_, Heap.get?_push_of_some _ (Heap.get?_push_size _ rfl), rfl, rfl⟩ fun b o x => Heap.get?_push_of_some _ (Heap.get?_push_of_some _ x)⟩
end
/-- the tuple at a, each item in a new pair -/
def ItE (K : PySem.W.Frag) (a : Addr) : It :=
  ⟨fun i H => ∃ (xs : List V) (x : V), SqT K H a xs ∧ xs[i]? = some x, fun i H v H' => ∃ T x, v = .ref T ∧ H T = none ∧ H' = upd H T (.tup [.int (i : Nat), x]) ∧ ∀ xs, SqT K H a xs → xs[i]? = some x, fun i H => ∃ xs : List V, SqT K H a xs ∧ xs.length = i⟩
theorem tup_inj {X : Cx} {pins : List (Addr × Obj)} {σ : L2.St} {H : Hp} {s : Shared} {a : Addr} {xs ys : List V} (I : Inv X pins σ H s) (hx : SqT X.K H a xs) (hy : SqT X.K H a ys) : xs = ys := I.tuple_inj hx hy
theorem turn_enumT {P : Program} {w : World} {K : PySem.W.Frag} {elts : List Expr} {kk : Nat} {tpos : Pos} (a e it : Addr) (hat : a ≠ it) :
    Turn P w K (.Tuple elts kk tpos) (ItE K a) [e, it] e (fun i h => (∃ old, IsEnum h e it ((i : Nat) : Int) old) ∧ h.IsTupleIter it a i ∧ e ≠ it ∧ e ≠ a) where
  mem := by simp
  obj := fun i h st b hb => by
    obtain ⟨⟨old, he⟩, ⟨o, ho, hc, hd⟩, _⟩ := st
    have z : b = e ∨ b = it := by simpa using hb
    rcases z with z | z
    · subst z
      exact ⟨_, he, fun v q => nomatch q⟩
    · subst z
      exact ⟨o, ho, fun v q => by rw [hd] at q; cases q⟩
  keep := fun i h h' st k => let ⟨⟨old, he⟩, hi, ne, na⟩ := st; ⟨⟨old, k e (by simp) _ he⟩, hi.at fun o q => k it (by simp) o q, ne, na⟩
  item := by
    intro X hP hw hK hc i pins s σ H E I hf st hg
    subst hP hw hK
    obtain ⟨⟨old, he⟩, hit, ne, na⟩ := st
    obtain ⟨xs, x, hq, hx⟩ := hg
    obtain ⟨its, rv, ht, hz⟩ := I.tuple hq
    obtain ⟨u, hu, ru⟩ := rv.get hx
    have hel : e < s.heap.objs.size := Heap.lt_size he
    have hil : it < s.heap.objs.size := by
      obtain ⟨_, q, _⟩ := hit
      exact Heap.lt_size q
    have hlt : i < its.toArray.size := by
      rw [List.size_toArray]
      exact (List.getElem?_eq_some_iff.mp hu).1
    refine wpAny_pyNext_enum_itemD (draws_tup (A := X.A.in1) (I.ok.hd hc) it a hat its.toArray) he ⟨hit, ht⟩ hlt ne (by simp [ne, na]) fun y h' tk hy ho st' hT hsz hk => ?_
    have ey : y = u := by
      have h1 : its[i]? = some y := by simpa using hy
      rw [hu] at h1
      exact (Option.some.inj h1).symm
    subst ey
    refine ⟨_, rfl, wpAny_letOwnedTupleGo_enum (s := { s with heap := h', toks := tk + 1 }) ho fun h'' he' sb => ?_⟩
    have hT2 : h''.get? s.heap.objs.size = some { cls := .type "tuple", data := .seq #[.int i tk, y] } := (sb.2 _ (Nat.ne_of_gt hel)).trans hT
    have new : ObjOk X.prog X.w (upd H s.heap.objs.size (.tup [.int (i : Nat), x])) h'' s.heap.objs.size (.tup [.int (i : Nat), x]) :=
      ⟨by show 2 ≤ sizeLine; decide, [.int i tk, y], .cons ⟨_, rfl⟩ (.cons ru .nil), ⟨_, hT2, rfl, _, rfl⟩⟩
    have I1 : Inv X pins σ (upd H s.heap.objs.size (.tup [.int (i : Nat), x])) { s with heap := h'', toks := tk + 1 } :=
      I.turnedNew (ch := [e, it]) (fun b ob hb q => (sb.2 b (fun z => hb (by simp [z]))).trans (hk b ob (fun z => hb (by simp [z])) (fun z => hb (by simp [z])) q)) hf (Nat.le_refl _) new
    refine ⟨.ref s.heap.objs.size, _, I1, rfl, ⟨_, x, rfl, I.hok.fresh (Nat.le_refl _), rfl, fun ys hy => ?_⟩, ⟨⟨y, ?_⟩, st'.1.at fun o q => (sb.2 it (Ne.symm ne)).trans q, ne, na⟩, fun b hb => ?_⟩
    · rw [tup_inj I hy hq]
      exact hx
    · have e1 : ((i + 1 : Nat) : Int) = (i : Int) + 1 := by omega
      rw [e1]
      exact he'
    · have hb' : b < s.heap.objs.size := by
        have z : b = e ∨ b = it := by simpa using hb
        rcases z with z | z
        · rw [z]
          exact hel
        · rw [z]
          exact hil
      rw [upd_ne (Nat.ne_of_lt hb')]
      exact (hf b hb).1
  done := by
    intro X hP hw hK hc i pins s σ H E I hf st hg
    subst hP hw hK
    obtain ⟨⟨old, he⟩, hit, ne, na⟩ := st
    obtain ⟨xs, hq, hx⟩ := hg
    obtain ⟨its, rv, ht, hz⟩ := I.tuple hq
    obtain ⟨f0, f1, f2, f3, f4, f5⟩ := hf it (by simp)
    have hl := rv.length
    have ei : i = its.toArray.size := by rw [List.size_toArray, ← hl, hx]
    refine wpAny_pyNext_enum_endD (draws_tup (A := X.A.in1) (I.ok.hd hc) it a hat its.toArray) he ⟨by rw [← ei]; exact hit, ht⟩ fun h' eb => ⟨rfl, I.turned (t' := s.toks) (fun b o hb q => eb b o hb q) f0 f1 f3 f4 f5⟩
  self := fun A i s Q E st h => let ⟨⟨_, he⟩, _⟩ := st; wpAny_pyIter_enum he h
def iEnumT (K : PySem.W.Frag) (ta : TA) : TI := fun σ H R => ta σ H fun vs H1 => ∃ a xs, vs = [.ref a] ∧ SqT K H1 a xs ∧ R (ItE K a) H1
theorem pi_enumT {X : Cx} {K : PySem.W.Frag} {e : Expr} {ta : TA} {p pos tpos : Pos} {elts : List Expr} {kk : Nat} (hg : Gl X "enumerate") (hm : X.mg "enumerate" = none) (ha : PA X [e] ta) (hK : X.K = K := by rfl) (hs : starEach [e] X.env = [(false, eval e X.env)] := by rfl) :
    PI X (.Tuple elts kk tpos) (.Call (.Name "enumerate" p) [e] [] pos) (iEnumT K ta) := by
  subst hK
  refine ⟨fun pins s σ H R I h => ?_⟩
  refine Call_ (ld_blt I hg hm boot_enumerate (PyProof.Rows.callWith_type1 (thn (ha.run pos pins s σ H _ I h) fun us s1 ⟨vs, H1, I1, r1, q1⟩ => ?_) hs rfl))
  obtain ⟨a, xs, ex, hq, q⟩ := q1
  subst ex
  cases r1 with
  | cons r rr =>
    cases rr
    cases r
    obtain ⟨its, rv, ht, hz⟩ := I1.tuple hq
    have hal : a < s1.heap.objs.size := ht.lt
    refine call_enum_tup ht fun h' he hit hk => wpAny_pyIter_enum he ?_
    have I2 : Inv X pins σ H1 { s1 with heap := h' } := I1.kept (t' := s1.toks) hk
    refine ⟨s1.heap.objs.size + 1, [s1.heap.objs.size + 1, s1.heap.objs.size], _, _, H1, rfl, I2, turn_enumT a (s1.heap.objs.size + 1) s1.heap.objs.size (Nat.ne_of_lt hal), ⟨⟨.none, he⟩, hit, Nat.succ_ne_self _, Nat.ne_of_gt (Nat.lt_succ_of_lt hal)⟩, fun b hb => ?_, q⟩
    have z : b = s1.heap.objs.size + 1 ∨ b = s1.heap.objs.size := by simpa using hb
    have hle : s1.heap.objs.size ≤ b := by
      rcases z with z | z
      · rw [z]
        exact Nat.le_succ _
      · rw [z]
        exact Nat.le_refl _
    exact I1.fpOk hle (I1.hok.fresh hle)
/-- the turns of such a loop: the item in a new pair -/
theorem for_enumT {K : PySem.W.Frag} {a : Addr} {xs : List V} {g : TG} {tb : TS} {D : Ends} {σ : L2.St} {H : Hp} (Pv : Nat → L2.St → Hp → Prop) (h0 : Pv 0 σ H) (hl : ∀ i σ H, i ≤ xs.length → Pv i σ H → SqT K H a xs)
    (hs : ∀ i x T σ H, xs[i]? = some x → Pv i σ H → H T = none → g (.ref T) σ (upd H T (.tup [.int (i : Nat), x])) fun σ2 H2 => tb { D with nx := Pv (i + 1), ct := Pv (i + 1), bk := D.nx } σ2 H2) (hd : ∀ σ H, Pv xs.length σ H → D.nx σ H) :
    ∃ W : Nat → Nat → L2.St → Hp → Prop, (∃ m, W 0 m σ H) ∧ ∀ i m σ H, W i m σ H →
      ((ItE K a).stop i H ∧ D.nx σ H) ∨ ((ItE K a).go i H ∧ ∃ N : L2.St → Hp → Prop, (∀ σ' H', N σ' H' → ∃ m', m' < m ∧ W (i + 1) m' σ' H') ∧ ∀ x H', (ItE K a).yld i H x H' → g x σ H' fun σ2 H2 => tb { D with nx := N, ct := N, bk := D.nx } σ2 H2) := by
  refine ⟨fun i m σ H => m = xs.length - i ∧ i ≤ xs.length ∧ Pv i σ H, ⟨xs.length, by simp, Nat.zero_le _, h0⟩, ?_⟩
  rintro i m σ H ⟨rfl, hi, p⟩
  have q := hl i σ H hi p
  by_cases lt : i < xs.length
  · refine .inr ⟨⟨xs, xs[i], q, List.getElem?_eq_getElem lt⟩, Pv (i + 1), fun σ' H' p' => ⟨xs.length - (i + 1), by omega, rfl, lt, p'⟩, fun x H' y => ?_⟩
    obtain ⟨T, z, rfl, nT, rfl, f⟩ := y
    exact hs i z T σ H (f xs q) p nT
  · have ei : i = xs.length := by omega
    subst ei
    exact .inl ⟨⟨xs, q, rfl⟩, hd σ H p⟩
end Und
/-! == and != of two instances of a class with an own __eq__ and no __ne__ -/
namespace Und
open PySem PySem.Spec PyProof.Rows L2 Builtin
section
variable {prog : Program} {w : World} {A : Around} {E : Value → Shared → Prop} {s : Shared} {K : PySem.W.Frag} {x C f : Addr} {ox : Obj} {od : Option Obj} {y : Value}
/-- what the class at C must have for it -/
structure EqOwn (K : PySem.W.Frag) (C f : Addr) : Prop where
  eq : PySem.W.findIn K (.ref C) "__eq__" = some (some (.ref f))
  fn : PySem.W.isFn K (.ref f) = true
  ne : PySem.W.findIn K (.ref C) "__ne__" = some (some (.builtin "object.__ne__"))
  ob : PySem.W.mroIn K C (.type "object") = some true
theorem entry_ne (X : K.In s.heap) (I : PySem.W.InstAt s.heap x ox C od) (W : EqOwn K C f) (hu : A.units < cLine) {Q : Fin → Shared → Prop}
    (h : wpAny (model prog w) A (call (.ref f) [.ref x, y]) (fun v s' => ∃ b, v = .bool b ∧ Q (.done (.ret (.bool (!b)))) s') E s) : wpAny (model prog w) A (Builtin.«object.__ne__» ⟨[.ref x, y], []⟩) Q E s := by
  unfold Builtin.«object.__ne__»
  repeat (first
    | with_reducible refine wpAny_cRoomFor hu ?_
    | (refine wpAny_bind (m := callSpecialIfBound? (.ref x) (Str.ofString "__eq__") [y]) (PySem.W.ifBound_K X I W.eq W.fn (wpAny_mono h (fun r s' hr => by
        obtain ⟨b, rfl, hq⟩ := hr
        repeat (first | exact hq | exact wpAny_pure hq | exact wpAny_truthy_bool hq | (refine wpAny_bind (m := truthy (.bool _)) (wpAny_truthy_bool ?_)) | wp_step)) fun _ _ e => e)))
    | wp_step)
theorem bound_ne {M : Model} {args : List Value} {Q : Option Value → Shared → Prop} (X : K.In s.heap) (I : PySem.W.InstAt s.heap x ox C od) (W : EqOwn K C f)
    (h : wpAny M A (call (.builtin "object.__ne__") (.ref x :: args)) (fun v => Q (some v)) E s) : wpAny M A (callSpecialIfBound? (.ref x) "__ne__" args) Q E s := by
  simp only [callSpecialIfBound?, bindSpecialIfBound?]
  refine wpAny_holding (wpAny_bind (wpAny_bind (wpAny_bind (I.type.here ((PySem.W.looks_findIn X W.ne).here ?_)))))
  refine wpAny_bind (wpAny_askSetting (wpAny_ite ?_))
  have fin : wpAny M A (call (.builtin "object.__ne__") ([.ref x] ++ args) >>= fun v => pure (some v)) Q E s := wpAny_bind (wpAny_mono h (fun v s' z => wpAny_pure z) fun _ _ z => z)
  split
  · exact wpAny_bind (wpAny_of_eq (F.cmp_object.ne.bind _) (wpAny_pure (by exact fin)))
  · exact wpAny_tryCatch (wpAny_bind (wpAny_of_eq (F.cmp_object.ne.bind _) (wpAny_pure (by exact fin))))
theorem rich_ne {b : Addr} {ob : Obj} {ob' : Option Obj} (X : K.In s.heap) (I : PySem.W.InstAt s.heap x ox C od) (J : PySem.W.InstAt s.heap b ob C ob') (W : EqOwn K C f) (hu : A.units + 1 < cLine) {Q : Value → Shared → Prop}
    (h : wpAny (model prog w) A.in1 (call (.ref f) [.ref x, .ref b]) (fun v s' => ∃ k, v = .bool k ∧ Q (.bool (!k)) s') E s) : wpAny (model prog w) A (richCompare .NotEq (.ref x) (.ref b)) Q E s := by
  have one : wpAny (model prog w) A (tryCompare (.ref x) "__ne__" (.ref b)) (fun r s' => ∃ v, r = some v ∧ Q v s') E s := by
    unfold tryCompare
    refine wpAny_bind (bound_ne X I W (wpAny_call (codeAny_call_builtin F.cmp_object.ne.plain F.cmpEntry_ne (PySem.W.check_slot F.cmpKind_ne F.cmpSplit_ne (I.type.andThen (PySem.W.looks_mroIn X W.ob)) (F.cmpArgs_ne _ _)
      (entry_ne (A := A.in1) X I W hu (wpAny_mono h (fun v s' z => ?_) fun _ _ z => z))))))
    obtain ⟨k, rfl, q⟩ := z
    exact ⟨k, rfl, wpAny_pure ⟨_, rfl, q⟩⟩
  unfold richCompare
  simp only [oneThing_ref]
  refine wpAny_holding (wpAny_bind (wpAny_cRoomFor (Nat.lt_of_succ_lt hu) ?_))
  rw [cmpInfo_NotEq]
  dsimp only
  refine wpAny_bind (I.type.here (wpAny_bind (J.type.here ?_)))
  rw [show (Value.ref C != Value.ref C) = false from by simp]
  simp only [Bool.false_eq_true, if_false]
  refine wpAny_bind (wpAny_pure ?_)
  simp only [Bool.false_eq_true, if_false]
  refine wpAny_bind (wpAny_mono one (fun r s' z => ?_) fun _ _ z => z)
  obtain ⟨v, rfl, q⟩ := z
  exact wpAny_pure q
end
/-- x == y (neg: x != y), by the promise of the class's own __eq__ -/
def rOwn (C : Addr) (sp : Sp) (E : XK) (neg : Bool) : R2 := fun x y H Q => ∃ a dx fs b dy gs, x = .ref a ∧ y = .ref b ∧ H a = some (.ins C dx fs) ∧ H b = some (.ins C dy gs) ∧ sp [.ref a, .ref b] H (fun z H' => ∃ k, z = .bl k ∧ Q (.bl (if neg then !k else k)) H') E
section
variable {X : Cx} {K : PySem.W.Frag} {CX : CXT} {C f : Addr} {fd : FuncData} {ps : List Str} {n : Nat} {sp : Sp} {E : XK}
theorem own_call {A : Around} {pins : List (Addr × Obj)} {σ : L2.St} {H : Hp} {s : Shared} {a b : Addr} {Q : VK} (F : FnOk X.prog X.w X.K X.mg X.base CX n f fd ps sp) (hb : Binds X.K fd ps []) (hx : Passes CX X E) (I : Inv X pins σ H s) (hr : Room n A) (hf : A.frames = X.A.frames)
    (h : sp [.ref a, .ref b] H Q E) : wpAny (model X.prog X.w) A (call (.ref f) [.ref a, .ref b]) (EP X pins σ Q) X.xe s := by
  have e0 : Env0 X.prog X.w X.K X.mg X.base A X.stack s H := by
    have e := I.env0
    exact ⟨by rw [hf]; exact e.frames, e.mod, e.bs, e.bsz, e.funs, e.frf, e.hok, e.bare⟩
  have hl := F.len _ _ _ _ h
  have r2 : Vals [V.ref a, V.ref b] [Value.ref a, Value.ref b] := .cons rfl (.cons rfl .nil)
  refine wpAny_call (codeAny_mono (F.run A X.stack s H ⟨[.ref a, .ref b], []⟩ [.ref a, .ref b] [.ref a, .ref b] Q E hr e0 (by
    have z := hb s [.ref a, .ref b] I.kIn (by simpa using hl)
    simpa using z) r2 h) fun r s' hq => ?_)
  cases r with
  | error e => exact hx pins σ H s e s' I hq
  | ok fl =>
    cases fl with
    | ret w => exact I.after hq
    | next => exact False.elim hq
    | brk => exact False.elim hq
    | cont => exact False.elim hq
theorem opEqOwn (W : EqOwn X.K C f) (F : FnOk X.prog X.w X.K X.mg X.base CX n f fd ps sp) (hr : Room n X.A) (hb : Binds X.K fd ps []) (hx : Passes CX X E) : OpR X (compareOp .Eq) (rOwn C sp E false) := by
  intro pins s σ H x y v u Q I rx ry h
  obtain ⟨a, dx, fs, b, dy, gs, rfl, rfl, ha, hb', q⟩ := h
  cases rx
  cases ry
  obtain ⟨mA, J, _⟩ := ins_get I.hok ha
  obtain ⟨mB, J', _⟩ := ins_get I.hok hb'
  obtain ⟨od, J, _⟩ := J.look
  obtain ⟨od', J', _⟩ := J'.look
  obtain ⟨m, hF⟩ := I.fr
  show wpAny (model X.prog X.w) X.A (richCompare .Eq (.ref a) (.ref b)) (EP X pins σ Q) X.xe s
  refine PySem.W.cmp_K (op := .Eq) (tb := .ref C) hr.units0 hF I.ok.mod.kin J J'.type (by simp [PySem.W.notFirst]) W.eq W.fn ?_
  refine wpAny_mono (own_call F hb hx I hr rfl q) (fun w s' z => ?_) fun _ _ z => z
  obtain ⟨v, H', I', rv, k, rfl, qk⟩ := z
  cases rv
  exact ⟨.bl k, H', I', rfl, qk⟩
theorem opNeOwn (W : EqOwn X.K C f) (F : FnOk X.prog X.w X.K X.mg X.base CX n f fd ps sp) (hr : Room (n + 1) X.A) (hb : Binds X.K fd ps []) (hx : Passes CX X E) : OpR X (compareOp .NotEq) (rOwn C sp E true) := by
  intro pins s σ H x y v u Q I rx ry h
  obtain ⟨a, dx, fs, b, dy, gs, rfl, rfl, ha, hb', q⟩ := h
  cases rx
  cases ry
  obtain ⟨mA, J, _⟩ := ins_get I.hok ha
  obtain ⟨mB, J', _⟩ := ins_get I.hok hb'
  obtain ⟨od, J, _⟩ := J.look
  obtain ⟨od', J', _⟩ := J'.look
  have hu := hr.un
  show wpAny (model X.prog X.w) X.A (richCompare .NotEq (.ref a) (.ref b)) (EP X pins σ Q) X.xe s
  refine rich_ne I.kIn J J' W (by omega) ?_
  refine wpAny_mono (own_call F hb hx I hr.in1 rfl q) (fun w s' z => ?_) fun _ _ z => z
  obtain ⟨v, H', I', rv, k, rfl, qk⟩ := z
  cases rv
  exact ⟨k, rfl, .bl (!k), H', I', rfl, qk⟩
end
section
variable {X : Cx} {K : PySem.W.Frag}
theorem callIsi (h : X.K = K := by rfl) : CallR X (.builtin "isinstance") (rIsi K) := h ▸ call_isi
end
section
variable {K : PySem.W.Frag} {H : Hp} {Q : VK}
/-- isinstance(x, T), T a built-in class -/
theorem c_isi {x : V} {a b : String} {r : Bool} (t : TyX K H x (.type a)) (e : kitB a b = some r) (h : Q (.bl r) H) : rIsi K [x, .ty b] H Q := ⟨x, .ty b, .type a, .type b, r, rfl, .ty b, t, kit_ty e, h⟩
theorem ty_int (i : Int) : TyX K H (.int i) (.type "int") := .base (.int i)
theorem ty_bl (i : Bool) : TyX K H (.bl i) (.type "bool") := .base (.bl i)
theorem ty_str (i : Str) : TyX K H (.str i) (.type "str") := .base (.str i)
theorem ty_non : TyX K H .non (.type "NoneType") := .base .non
theorem ty_tup {a : Addr} {xs : List V} (h : SqT K H a xs) : TyX K H (.ref a) (.type "tuple") := by
  rcases h with (h | ⟨o, h⟩) | ⟨o, its, n, l, c, _⟩
  · exact .base (.tup h)
  · exact .fTuple h
  · exact .kTuple l c
end
theorem peGlobI {X : Cx} {x : Str} {n : Int} {pos : Pos} (hg : Gl X x) (hm : ∃ t, X.mg x = some (.int n t)) (hd : (x == ("__debug__" : Str)) = false := by decide) : PE X (.Name x pos) (tC (.int n)) := by
  obtain ⟨t, hm⟩ := hm
  exact pe_glob hg hm ⟨t, rfl⟩ hd
section
variable {K : PySem.W.Frag} {H : Hp} {Q : VK} {D : Addr} {Qd : Hp → Prop} {te : TE} {i0 : Nat} {vs : List Nat} {σ : L2.St} {H1 : Hp}
theorem c_str {te : TE} {R : It → Hp → Prop} (h : te σ H fun v H1 => ∃ x, v = .str x ∧ R (Its x) H1) : iStr te σ H R := h
def rLeS : R2 := fun x y H Q => ∃ i j, x = .str i ∧ y = .str j ∧ Q (.bl (!decide (j.cps.toList < i.cps.toList))) H
theorem opLeS {X : Cx} : OpR X (compareOp .LtE) rLeS := op_le_str
theorem c_leS {x y : Str} (h : Q (.bl (!decide (y.cps.toList < x.cps.toList))) H) : rLeS (.str x) (.str y) H Q := ⟨x, y, rfl, rfl, h⟩
/-- a comprehension over the signs of a text -/
theorem lc_sg (R : Nat → V → Prop) {z : Str} (nD : H1 D = none) (hn : z.length ≤ 100000) (hw : ∀ v, wipe ((wipe σ vs).set i0 (some v)) vs = wipe σ vs)
    (hs : ∀ i c H (Q' : VK), z.cps.toList[i]? = some c → Same H1 H → (∀ y H4, Same H H4 → R i y → Q' y H4) → te ((wipe σ vs).set i0 (some (.str ⟨#[c]⟩))) H Q')
    (hd : ∀ H xs, Same H1 H → H D = some (.lst xs) → xs.length = z.length → (∀ i y, xs[i]? = some y → R i y) → Qd H) : LcW (Its z) te (gName i0) tYes vs σ H1 D Qd := by
  refine ⟨fun i m H => m = z.length - i ∧ i ≤ z.length ∧ Same H1 H ∧ Acc R D i H, ⟨z.length, rfl, Nat.zero_le _, same_new nD, [], upd_same, rfl, fun j y e => by simp at e⟩, ?_⟩
  rintro i m H ⟨rfl, hi, st, xs, e, l, r⟩
  by_cases lt : i < z.length
  · refine .inr ⟨lt, fun H' => i + 1 ≤ z.length ∧ Same H1 H' ∧ Acc R D (i + 1) H', fun H' p' => ⟨z.length - (i + 1), by omega, rfl, p'⟩, fun x H' y => ?_⟩
    obtain ⟨rfl, c, ec, rfl⟩ := y
    refine ⟨hw _, c_yes ?_⟩
    rw [if_pos rfl]
    exact hs i c H' _ (by simpa using ec) st fun y H4 s4 ry => ⟨xs, s4 _ _ e, szl (by omega), lt, Same.mut (st.trans s4) nD, Acc.put l r ry⟩
  · have ei : i = z.length := by omega
    subst ei
    exact .inl ⟨Nat.le_refl _, hd H xs st e l r⟩
theorem bls_of {xs : List V} {n : Nat} (h : ∀ (i : Nat) y, xs[i]? = some y → y = V.bl true) : ∃ bs : List Bool, xs = bs.map V.bl ∧ bs.all id = true := by
  induction xs with
  | nil => exact ⟨[], rfl, rfl⟩
  | cons x r ih =>
    obtain ⟨bs, rfl, hb⟩ := ih fun i y e => h (i + 1) y e
    have := h 0 x rfl
    subst this
    exact ⟨true :: bs, rfl, by simpa using hb⟩
theorem le_one {a b : Nat} : (!decide ((⟨#[b]⟩ : Str).cps.toList < (⟨#[a]⟩ : Str).cps.toList)) = decide (a ≤ b) := by
  show (!decide ([b] < [a])) = decide (a ≤ b)
  have e : ([b] < [a]) ↔ b < a := by
    constructor
    · intro h
      cases h with
      | rel h => exact h
      | cons h => cases h
    · intro h
      exact List.Lex.rel h
  by_cases h : b < a
  · rw [decide_eq_true (e.mpr h), decide_eq_false (by omega)]
    rfl
  · rw [decide_eq_false (fun z => h (e.mp z)), decide_eq_true (by omega)]
    rfl
end
/-- a chain of two comparisons -/
theorem c_chain {r r' : R2} {ta tb tc : TE} {σ : L2.St} {H : Hp} {Q : VK} (h : ta σ H fun x H1 => tb σ H1 fun y H2 => r x y H2 fun z H3 => ∃ k, z = .bl k ∧ if k = true then (tc σ H3 fun u H4 => r' y u H4 Q) else Q (.bl false) H3) : tChain r r' ta tb tc σ H Q := h
theorem iteNT {A B : Prop} (h : B) : if (!true) = true then A else B := by
  rw [if_neg (by decide)]
  exact h
theorem iteNF {A B : Prop} (h : A) : if (!false) = true then A else B := by
  rw [if_pos (by decide)]
  exact h
theorem iteDT {p A B : Prop} [Decidable p] (hp : p) (h : A) : if decide p = true then A else B := by
  rw [if_pos (decide_eq_true hp)]
  exact h
theorem iteDF {p A B : Prop} [Decidable p] (hp : ¬ p) (h : B) : if decide p = true then A else B := by
  rw [if_neg (by rw [decide_eq_false hp]; decide)]
  exact h
theorem iteNDT {p A B : Prop} [Decidable p] (hp : p) (h : B) : if (!decide p) = true then A else B := by
  rw [decide_eq_true hp]
  exact iteNT h
theorem iteNDF {p A B : Prop} [Decidable p] (hp : ¬ p) (h : A) : if (!decide p) = true then A else B := by
  rw [decide_eq_false hp]
  exact iteNF h
theorem c_ienumT {K : PySem.W.Frag} {ta : TA} {σ : L2.St} {H : Hp} {R : It → Hp → Prop} (h : ta σ H fun vs H1 => ∃ a xs, vs = [.ref a] ∧ SqT K H1 a xs ∧ R (ItE K a) H1) : iEnumT K ta σ H R := h
section
variable {K : PySem.W.Frag} {C : Addr} {σ : L2.St} {H : Hp} {Q : VK} {ta : TE} {t : TA} {sp : Sp} {dvs : List V} {E : XK} {m : Str}
/-- C(..): a new instance and its dict, then __init__'s promise -/
def rMk (C : Addr) (sp : Sp) (E : XK) (vs : List V) (H : Hp) (Q : VK) : Prop := ∀ x dx, H x = none → H dx = none → dx ≠ x → sp (.ref x :: vs) (upd (upd H dx (.own x)) x (.ins C dx [])) (fun v H2 => v = .non ∧ Q (.ref x) H2) E
theorem c_make (h : t σ H fun vs H1 => rMk C sp E (vs ++ dvs) H1 Q) : tMake C sp dvs E t σ H Q := h
theorem c_meth (h : ta σ H fun x H1 => ∃ a dx fs, x = .ref a ∧ H1 a = some (.ins C dx fs) ∧ fs.lookup m = none ∧ t σ H1 fun vs H2 => sp (x :: (vs ++ dvs)) H2 Q E) : tMeth C m sp dvs E ta t σ H Q := h
def rPrp (C : Addr) (sp : Sp) (dvs : List V) (E : XK) (x : V) (H : Hp) (Q : VK) : Prop := ∃ a dx fs, x = .ref a ∧ H a = some (.ins C dx fs) ∧ sp (.ref a :: dvs) H Q E
theorem c_prop (h : ta σ H fun x H1 => rPrp C sp dvs E x H1 Q) : tProp C sp dvs E ta σ H Q := h
theorem c_sfld {K : PySem.W.Frag} {to tv : TE} {f : Str} {D : Ends} (h : tv σ H fun y H1 => to σ H1 fun x H2 => ∃ a C dx fs, x = .ref a ∧ H2 a = some (.ins C dx fs) ∧ Cls K C ∧ NoAttr K C f ∧ fs.length < 1000 ∧ D.nx σ (upd H2 a (.ins C dx (putF f y fs)))) : sFld K to tv f D σ H := h
end
/-- p or q, the second asked only if p is false: what follows is shown once -/
theorem c_orB {p q : Bool} {tb : TE} {σ : L2.St} {H : Hp} {Q : VK} (h0 : ∀ H2, Same H H2 → Q (.bl (p || q)) H2) (hb : p = false → ∀ Q' : VK, (∀ H2, Same H H2 → Q' (.bl q) H2) → tb σ H Q') : if p = true then Q (.bl true) H else tb σ H Q := by
  cases p with
  | true =>
    rw [if_pos rfl]
    exact h0 H (Same.refl H)
  | false =>
    rw [if_neg (by decide)]
    exact hb rfl Q fun H2 s => h0 H2 s
theorem c_andB {p q : Bool} {tb : TE} {σ : L2.St} {H : Hp} {Q : VK} (h0 : ∀ H2, Same H H2 → Q (.bl (p && q)) H2) (hb : p = true → ∀ Q' : VK, (∀ H2, Same H H2 → Q' (.bl q) H2) → tb σ H Q') : if p = true then tb σ H Q else Q (.bl false) H := by
  cases p with
  | true =>
    rw [if_pos rfl]
    exact hb rfl Q fun H2 s => h0 H2 s
  | false =>
    rw [if_neg (by decide)]
    exact h0 H (Same.refl H)
end Und
/-! defs with *names, classes made by them, instances called, + and str of instances, static methods -/
namespace Und
open PySem PySem.Spec PyProof.Rows L2
/-! ### a def f(a, .., *v) -/
structure FunS (K : PySem.W.Frag) (name qual : Str) (st : Stmt) (ps : List Str) (pv : Str) (f : Addr) : Prop where
  ex : ∃ (oc : Value) (od : Option Addr) (dV kV doc pm : Value) (an : Option Addr) (cdv ct : Value) (osl : Array (Option Value)),
    K.lookup f = some ⟨oc, od, .func (PySem.W.fnOf name qual (defArgs st) (defBody st) (defScope st) dV kV doc pm an cdv ct), osl⟩ ∧ PySem.W.codeIn K cdv qual = true ∧
    ∀ us rest : List Value, us.length = ps.length → bindArgs (PySem.W.fnOf name qual (defArgs st) (defBody st) (defScope st) dV kV doc pm an cdv ct) ⟨us ++ rest, []⟩ = (newTuple rest >>= fun t => pure (ps.zip us ++ [(pv, t)]))
  kp : PySem.W.keepIn K (.ref f) = true
def spStar (n : Nat) (sp : Sp) : Sp := fun vs H Q E => ∃ ws rest, vs = ws ++ rest ∧ ws.length = n ∧ rest.length ≤ sizeLine ∧ ∀ p, H p = none → sp (ws ++ [V.ref p]) (upd H p (.tup rest)) Q E
section
variable {P : Program} {w : World} {K : PySem.W.Frag} {mg : Str → Option Value} {base : Heap}
theorem FunS.ok {name qual pv : Str} {st : Stmt} {ps N : List Str} {f : Addr} {k : Nat} {sp : Sp} (F : FunS K name qual st ps pv f) (S : FnScope N (ps ++ [pv]) (defScope st))
    (hbody : ∀ (cdv : Value) (A : Around) (outer : List Env) (s : Shared) (H : Hp) (vs : List V) (Q : VK) (E : XK), Room k (A.deeper (envOfC qual (defScope st) s.heap.objs.size f cdv)) → sp vs H Q E →
      ∃ t, PSs (cxOf CX0 P w K mg base N qual (defScope st) f cdv A outer s H E).nox (defBody st) t ∧ t { nx := fun _ H' => Q .non H', rt := Q } (start N vs) H) : FnR P w K mg base CX0 (k + 1) f (spStar ps.length sp) := by
  obtain ⟨oc, od, dV, kV, doc, pm, an, cdv, ct, osl, lk, hcd, hb⟩ := F.ex
  refine StX.fn_star lk hcd S StX.cxUp_none hb fun A outer s H vs Q E hr hsp => ?_
  obtain ⟨t, h, q⟩ := hbody cdv A outer s H vs Q E hr hsp
  exact ⟨t, h.nox, q⟩
/-- FunD.ok where nothing is raised -/
theorem funD_ok {x qual : Str} {params : Arguments} {body : List Stmt} {scope : Scope} {dvs : List V} {kws : List (Str × V)} {f : Addr} {fd : FuncData} {N ps : List Str} {k : Nat} {sp : Sp} (F : FunD K x qual params body scope dvs kws f fd) (S : FnScope N ps scope) (len : ∀ vs H Q E, sp vs H Q E → vs.length = ps.length)
    (hbody : ∀ (cdv : Value) (A : Around) (outer : List Env) (s : Shared) (H : Hp) (vs : List V) (Q : VK) (E : XK), Room k (A.deeper (envOfC qual scope s.heap.objs.size f cdv)) → sp vs H Q E →
      ∃ t, PSs (cxOf CX0 P w K mg base N qual scope f cdv A outer s H E).nox body t ∧ t { nx := fun _ H' => Q .non H', rt := Q } (start N vs) H) : FnOk P w K mg base CX0 (k + 1) f fd ps sp :=
  F.ok S len fun cdv A outer s H vs Q E hr hsp => by
    obtain ⟨t, h, q⟩ := hbody cdv A outer s H vs Q E hr hsp
    exact ⟨t, h.nox, q⟩
end
/-! ### making by such an __init__ -/
def rMkR (C : Addr) (sp : Sp) (E : XK) (vs : List V) (H : Hp) (Q : VK) : Prop := ∀ x dx, H x = none → H dx = none → dx ≠ x → sp (V.ref x :: vs) (upd (upd H dx (.own x)) x (.ins C dx [])) (fun v H2 => v = .non ∧ Q (.ref x) H2) E
section
variable {X : Cx} {CX : CXT} {k : Nat} {f C : Addr} {sp : Sp} {E : XK} {x : Str} {e fe : Expr} {es : List Expr} {te tf : TE} {t : TA} {p pos : Pos}
theorem pe_makeR0 (M : Mk X.K C f) (F : FnR X.prog X.w X.K X.mg X.base CX k f sp) (hr : Room (k + 1) X.A) (hg : Gl X x) (hm : X.mg x = some (.ref C)) (hx : Passes CX X E) (hdb : (x == ("__debug__" : Str)) = false := by decide) :
    PE X (.Call (.Name x p) [] [] pos) (StX.tMakeR C sp E tNil) := by
  refine ⟨fun pins s σ H Q I h => ?_⟩
  refine wpAny_Call_Name_kw (ld_glob I hg hm ?_ hdb)
  exact PySem.W.callWith_K0 I.kIn M.kp (StX.run_makeR (us := []) M F hr hx I .nil h)
theorem c_makeR {σ : L2.St} {H : Hp} {Q : VK} (h : t σ H fun vs H1 => rMkR C sp E vs H1 Q) : StX.tMakeR C sp E t σ H Q := h
/-! ### a static method, off its class -/
structure CStat (K : PySem.W.Frag) (C : Addr) (mc : Value) (m : Str) (p g : Addr) : Prop where
  at_ : PySem.W.findCls K (.ref C) mc m = some (.get (.builtin "staticmethod.__get__") (.ref p) .none (.ref C))
  rc : ∃ rest, PySem.W.recIn K p "staticmethod" = some (.ref g :: rest)
  kp : PySem.W.keepIn K (.ref g) = true
def tSMeth (C : Addr) (sp : Sp) (E : XK) (ta : TE) (t : TA) : TE := fun σ H Q => ta σ H fun x H1 => x = .ref C ∧ t σ H1 fun vs H2 => sp vs H2 Q E
theorem c_smeth {σ : L2.St} {H : Hp} {Q : VK} (h : te σ H fun x H1 => x = .ref C ∧ t σ H1 fun vs H2 => sp vs H2 Q E) : tSMeth C sp E te t σ H Q := h
theorem pe_smeth {o : Expr} {m : Str} {apos : Pos} {g q : Addr} {mc : Value} {ta : TE} {pl : Sem Bool} (he : PE X o ta) (r : ClX.CRead X.K C mc) (c : CStat X.K C mc m q g) (F : FnR X.prog X.w X.K X.mg X.base CX k g sp) (hr : Room k X.A) (hx : Passes CX X E) (ha : PA X (e :: es) t)
    (hst : starEach (e :: es) X.env = (false, eval e X.env) :: starEach es X.env := by rfl) (hpl : (backTo pos (starEach es X.env)).any (·.1) = false := by rfl)
    (ht : eval (.Call (.Attribute o m apos) (e :: es) [] pos) X.env = (do
      let ov ← eval o X.env
      standAt apos.atName
      let (f, first) ← holding [ov] (getMethod ov m pl)
      callWith pos f first (backTo pos (starEach (e :: es) X.env)) (backToKw pos (keywordEach [] X.env))) := by rfl) :
    PE X (.Call (.Attribute o m apos) (e :: es) [] pos) (tSMeth C sp E ta t) := by
  refine ⟨fun pins s σ H Q I h => ?_⟩
  refine PySem.W.methodCall_KW (pl := pl) (thn (he.run pins s σ H _ I h) fun u s1 ⟨x, H1, I1, rx, ex, q⟩ => ?_) ht
  subst ex
  obtain rfl : u = Value.ref C := rx
  obtain ⟨rest, hp⟩ := c.rc
  refine PySem.W.method_cls I1.kIn r.ga ?_
  refine PySem.W.cls_bind I1.kIn r.rd c.at_ (wpAny_call (PySem.W.sm_get (s := { s1 with toks := s1.toks + 1 }) I1.kIn hp (PySem.W.handed_on rfl ?_)))
  have I2 := I1.tok (s1.toks + 1)
  exact PySem.W.callWith_K (h₀ := X.base) I2.ok.mod.kin c.kp (thn (ha.run pos pins _ σ H1 _ I2 q) fun us s3 ⟨vs, H2, I3, rv, q2⟩ => ⟨I3.kIn, wpAny_call (run_fnR F hr hx I3 rv q2)⟩) hst hpl
end
/-! ### a + b of two instances of a class with an own __add__ -/
structure AddOwn (K : PySem.W.Frag) (C f : Addr) : Prop where
  at_ : PySem.W.findIn K (.ref C) "__add__" = some (some (.ref f))
  fn : PySem.W.isFn K (.ref f) = true
  sf : PySem.W.selfFirst K C = true
def rAddO (C : Addr) (sp : Sp) (E : XK) : R2 := fun x y H Q => ∃ a dx fs b dy gs, x = .ref a ∧ y = .ref b ∧ H a = some (.ins C dx fs) ∧ H b = some (.ins C dy gs) ∧ sp [.ref a, .ref b] H (fun z H' => ∃ r, z = .ref r ∧ Q (.ref r) H') E
section
variable {X : Cx} {CX : CXT} {C f : Addr} {fd : FuncData} {ps : List Str} {n : Nat} {sp : Sp} {E : XK}
theorem opAddOwn (W : AddOwn X.K C f) (F : FnOk X.prog X.w X.K X.mg X.base CX n f fd ps sp) (hr : Room n X.A) (hb : Binds X.K fd ps []) (hx : Passes CX X E) : OpR X (binaryOp .Add) (rAddO C sp E) := by
  intro pins s σ H x y v u Q I rx ry h
  obtain ⟨a, dx, fs, b, dy, gs, rfl, rfl, ha, hb', q⟩ := h
  cases rx
  cases ry
  obtain ⟨mA, J, _⟩ := ins_get I.hok ha
  obtain ⟨mB, J', _⟩ := ins_get I.hok hb'
  obtain ⟨od, J, _⟩ := J.look
  obtain ⟨od', J', _⟩ := J'.look
  obtain ⟨m, hF⟩ := I.fr
  refine PySem.W.binop_K (op := .Add) hF I.ok.mod.kin J J'.type W.sf W.at_ W.fn ?_
  refine wpAny_mono (own_call F hb hx I hr rfl q) (fun w s' z => ?_) fun _ _ z => z
  obtain ⟨v, H', I', rv, r, rfl, qk⟩ := z
  cases rv
  exact ⟨.ref r, H', I', rfl, qk⟩
/-! ### str of an instance of a class with an own __str__ -/
structure StrOwn (K : PySem.W.Frag) (C f : Addr) : Prop where
  at_ : PySem.W.findIn K (.ref C) "__str__" = some (some (.ref f))
  fn : PySem.W.isFn K (.ref f) = true
def rStrO (C : Addr) (sp : Sp) (E : XK) : List V → Hp → VK → Prop := fun xs H Q => ∃ a dx fs, xs = [.ref a] ∧ H a = some (.ins C dx fs) ∧ sp [.ref a] H (fun z H' => ∃ r, z = .str r ∧ Q (.str r) H') E
theorem own_call1 {A : Around} {pins : List (Addr × Obj)} {σ : L2.St} {H : Hp} {s : Shared} {a : Addr} {Q : VK} (F : FnOk X.prog X.w X.K X.mg X.base CX n f fd ps sp) (hb : Binds X.K fd ps []) (hx : Passes CX X E) (I : Inv X pins σ H s) (hr : Room n A) (hf : A.frames = X.A.frames)
    (h : sp [.ref a] H Q E) : wpAny (model X.prog X.w) A (call (.ref f) [.ref a]) (EP X pins σ Q) X.xe s := by
  have e0 : Env0 X.prog X.w X.K X.mg X.base A X.stack s H := by
    have e := I.env0
    exact ⟨by rw [hf]; exact e.frames, e.mod, e.bs, e.bsz, e.funs, e.frf, e.hok, e.bare⟩
  have hl := F.len _ _ _ _ h
  have r2 : Vals [V.ref a] [Value.ref a] := .cons rfl .nil
  refine wpAny_call (codeAny_mono (F.run A X.stack s H ⟨[.ref a], []⟩ [.ref a] [.ref a] Q E hr e0 (by
    have z := hb s [.ref a] I.kIn (by simpa using hl)
    simpa using z) r2 h) fun r s' hq => ?_)
  cases r with
  | error e => exact hx pins σ H s e s' I hq
  | ok fl =>
    cases fl with
    | ret w => exact I.after hq
    | next => exact False.elim hq
    | brk => exact False.elim hq
    | cont => exact False.elim hq
theorem callStrO (W : StrOwn X.K C f) (F : FnOk X.prog X.w X.K X.mg X.base CX n f fd ps sp) (hr : Room (n + 2) X.A) (hb : Binds X.K fd ps []) (hx : Passes CX X E) : CallR X (.type "str") (rStrO C sp E) := by
  intro pins s σ H xs us Q I r h
  obtain ⟨a, dx, fs, rfl, ha, q⟩ := h
  obtain ⟨u, rfl, ru⟩ := vals1 r
  cases ru
  obtain ⟨mA, J, _⟩ := ins_get I.hok ha
  obtain ⟨od, J, _⟩ := J.look
  have h2 : Room n X.A.in1.in1 := hr.in1.in1
  refine PySem.W.kso_call h2.units0 I.kIn J W.at_ W.fn ?_
  refine wpAny_mono (own_call1 F hb hx I h2 rfl q) (fun w s' z => ?_) fun _ _ z => z
  obtain ⟨v, H', I', rv, r, rfl, qk⟩ := z
  obtain ⟨t, rfl⟩ := rv
  exact ⟨.str r, H', I', ⟨t, rfl⟩, qk⟩
end
end Und
namespace Und
open PySem PySem.Spec PyProof.Rows L2
section
variable {X : Cx} {K : PySem.W.Frag}
theorem crSum (hc : X.calm = true) (h : X.K = K := by rfl) : CallR X (.builtin "sum") (rSum K) := h ▸ cr_sum hc
def tStarK (K : PySem.W.Frag) (te : TE) (t : TA) : TA := fun σ H Q => te σ H fun x H1 => ∃ p xs, x = V.ref p ∧ (SqT K H1 p xs ∨ SqL K H1 p xs) ∧ t σ H1 fun ys H2 => Q (xs ++ ys) H2
theorem paStar {e : Expr} {es : List Expr} {te : TE} {t : TA} {p : Pos} (he : PE X e te) (hr : PA X es t) (h : X.K = K := by rfl) (hs : starEach (.Starred e p :: es) X.env = (true, eval e X.env) :: starEach es X.env := by rfl) : PA X (.Starred e p :: es) (tStarK K te t) := h ▸ StX.pa_star he hr hs
def rStarK (K : PySem.W.Frag) (x : V) (H : Hp) (Q : List V → Prop) : Prop := ∃ p xs, x = V.ref p ∧ (SqT K H p xs ∨ SqL K H p xs) ∧ Q xs
theorem c_star {σ : L2.St} {H : Hp} {te : TE} {t : TA} {Q : List V → Hp → Prop} (h : te σ H fun x H1 => rStarK K x H1 fun xs => t σ H1 fun ys H2 => Q (xs ++ ys) H2) : tStarK K te t σ H Q := h
theorem c_starT {a : Addr} {xs : List V} {H : Hp} {Q : List V → Prop} (e : SqT K H a xs) (h : Q xs) : rStarK K (.ref a) H Q := ⟨a, xs, rfl, .inl e, h⟩
theorem c_starL {a : Addr} {xs : List V} {H : Hp} {Q : List V → Prop} (e : SqL K H a xs) (h : Q xs) : rStarK K (.ref a) H Q := ⟨a, xs, rfl, .inr e, h⟩
end
end Und
namespace Und
open PySem PySem.Spec PyProof.Rows L2
/-! ### calling an instance -/
def rCallK (C : Addr) (sp : Sp) (E : XK) (t : TA) (σ : L2.St) (y : V) (H : Hp) (Q : VK) : Prop := ∃ a, y = V.ref a ∧ t σ H fun vs H2 => (∃ dx fs, H2 a = some (.ins C dx fs)) ∧ sp (V.ref a :: vs) H2 Q E
def tCallK (C : Addr) (sp : Sp) (E : XK) (tf : TE) (t : TA) : TE := fun σ H Q => tf σ H fun y H1 => rCallK C sp E t σ y H1 Q
theorem c_callK {C : Addr} {sp : Sp} {E : XK} {tf : TE} {t : TA} {σ : L2.St} {H : Hp} {Q : VK} (h : tf σ H fun y H1 => rCallK C sp E t σ y H1 Q) : tCallK C sp E tf t σ H Q := h
theorem c_ck {C a : Addr} {sp : Sp} {E : XK} {t : TA} {σ : L2.St} {H : Hp} {Q : VK} (h : t σ H fun vs H2 => (∃ dx fs, H2 a = some (.ins C dx fs)) ∧ sp (V.ref a :: vs) H2 Q E) : rCallK C sp E t σ (.ref a) H Q := ⟨a, rfl, h⟩
theorem peCallO {X : Cx} {CX : CXT} {k : Nat} {C g : Addr} {sp : Sp} {E : XK} {e fe : Expr} {es : List Expr} {tf : TE} {t : TA} {pos : Pos} (hf : PE X fe tf) (c : StX.CallO X.K C g) (F : FnR X.prog X.w X.K X.mg X.base CX k g sp) (hr : Room k X.A) (hx : Passes CX X E) (ha : PA X (e :: es) t)
    (ht : eval (.Call fe (e :: es) [] pos) X.env = (do callWith pos (← eval fe X.env) [] (backTo pos (starEach (e :: es) X.env)) (backToKw pos (keywordEach [] X.env))) := by rfl)
    (he : starEach (e :: es) X.env = (false, eval e X.env) :: starEach es X.env := by rfl) (hpl : (backTo pos (starEach es X.env)).any (·.1) = false := by rfl) : PE X (.Call fe (e :: es) [] pos) (tCallK C sp E tf t) := by
  refine ⟨fun pins s σ H Q I h => ?_⟩
  refine Call_ (thn (hf.run pins s σ H _ I h) fun u s1 ⟨y, H1, I1, ry, a, ey, q⟩ => ?_) ht
  subst ey
  obtain rfl : u = Value.ref a := ry
  refine StX.callO_with (thn (ha.run pos pins s1 σ H1 _ I1 q) fun us s2 ⟨vs, H2, I2, r, hi, q2⟩ => ?_) he hpl
  have hi2 : StX.InsC X H2 a C := .inr hi
  obtain ⟨ox, od, J, hd⟩ := StX.insC_at I2 hi2
  exact ⟨⟨C, ox, od, J, hd⟩, StX.run_callO c F hr hx I2 hi2 r q2⟩
end Und
namespace Und
open PySem PySem.Spec PyProof.Rows L2
/-! ### texts -/
section
variable {X : Cx} {K : PySem.W.Frag} {σ : L2.St} {H : Hp} {Q : VK} {ta tb : TE}
theorem peGlobS {x z : Str} {pos : Pos} (hg : Gl X x) (hm : ∃ t, X.mg x = some (.str z t)) (hd : (x == ("__debug__" : Str)) = false := by decide) : PE X (.Name x pos) (tC (.str z)) := by
  obtain ⟨t, hm⟩ := hm
  exact pe_glob hg hm ⟨t, rfl⟩ hd
def tOrK (K : PySem.W.Frag) (ta tb : TE) : TE := fun σ H Q => ta σ H fun x H1 => ∃ k, TruV K x H1 k ∧ if k = true then Q x H1 else tb σ H1 Q
theorem peOrT {a b : Expr} {rest : List Expr} {pos : Pos} (ha : PE X a ta) (hb : PE X (.BoolOp .Or (b :: rest) pos) tb) (h : X.K = K := by rfl) : PE X (.BoolOp .Or (a :: b :: rest) pos) (tOrK K ta tb) := h ▸ pe_orT ha hb
def rTru (K : PySem.W.Frag) (tb : TE) (σ : L2.St) (x : V) (H : Hp) (Q : VK) : Prop := ∃ k, TruV K x H k ∧ if k = true then Q x H else tb σ H Q
theorem c_orT (h : ta σ H fun x H1 => rTru K tb σ x H1 Q) : tOrK K ta tb σ H Q := h
theorem c_truT {a : Addr} {x : V} {xs : List V} (e : SqT K H a (x :: xs)) (h : Q (.ref a) H) : rTru K tb σ (.ref a) H Q := ⟨true, .inr (.inl ⟨_, e, rfl⟩), by rw [if_pos rfl]; exact h⟩
theorem c_truN (h : tb σ H Q) : rTru K tb σ .non H Q := ⟨false, rfl, by rw [if_neg Bool.false_ne_true]; exact h⟩
def rMS (g : Str → Str → Bool) (x : V) (xs : List V) (H : Hp) (Q : VK) : Prop := ∃ a b, x = .str a ∧ xs = [.str b] ∧ Q (.bl (g a b)) H
theorem mrStartswith : MtR X "str.startswith" (rMS Txt.startswith) := mt_startswith
theorem mrEndswith : MtR X "str.endswith" (rMS Txt.endswith) := mt_endswith
theorem c_rMS {g : Str → Str → Bool} {y z : Str} {b : Bool} (e : g y z = b) (h : Q (.bl b) H) : rMS g (.str y) [.str z] H Q := ⟨y, z, rfl, rfl, by rw [e]; exact h⟩
def rSplit (x : V) (xs : List V) (H : Hp) (Q : VK) : Prop := ∃ a b, x = .str a ∧ xs = [.str b] ∧ (b.length == 0) = false ∧ a.length + 2 ≤ sizeLine ∧ rNewStrs (Txt.split a b) H Q
def rPart (x : V) (xs : List V) (H : Hp) (Q : VK) : Prop := ∃ a b, x = .str a ∧ xs = [.str b] ∧ (b.length == 0) = false ∧ a.length ≤ sizeLine ∧ ∀ p, H p = none → Q (.ref p) (upd H p (.tup [.str (Txt.partition a b).1, .str (Txt.partition a b).2.1, .str (Txt.partition a b).2.2]))
theorem peSplit {o e : Expr} {apos pos : Pos} (ho : PE X o ta) (he : PE X e tb) (hs : starEach [e] X.env = [(false, eval e X.env)] := by rfl) (hbase : attributeBase o "split" X.env (eval o X.env) = eval o X.env := by rfl) (hline : (apos.endLine == pos.line) = true := by rfl) :
    PE X (.Call (.Attribute o "split" apos) [e] [] pos) (tM1 rSplit ta tb) := pe_split ho he hs hbase hline
theorem pePartition {o e : Expr} {apos pos : Pos} (ho : PE X o ta) (he : PE X e tb) (hs : starEach [e] X.env = [(false, eval e X.env)] := by rfl) (hbase : attributeBase o "partition" X.env (eval o X.env) = eval o X.env := by rfl) (hline : (apos.endLine == pos.line) = true := by rfl) :
    PE X (.Call (.Attribute o "partition" apos) [e] [] pos) (tM1 rPart ta tb) := pe_partition ho he hs hbase hline
theorem c_split {y z : Str} {ys : List Str} (e : Txt.split y z = ys) (h0 : (z.length == 0) = false) (hl : y.length ≤ 100000) (h : ∀ p H2, H p = none → Same H H2 → H2 p = some (.lst (ys.map V.str)) → Q (.ref p) H2) : rSplit (.str y) [.str z] H Q :=
  ⟨y, z, rfl, rfl, h0, Nat.le_trans (show y.length + 2 ≤ 200000 by omega) (by decide), fun p np => by rw [e]; exact h p _ np (same_new np) upd_same⟩
theorem c_part1 {y z a b c : Str} (e : Txt.partition y z = (a, b, c)) (h0 : (z.length == 0) = false) (hl : y.length ≤ 100000) (h : ∀ p H2, H p = none → Same H H2 → H2 p = some (.tup [.str a, .str b, .str c]) → Q (.ref p) H2) : rPart (.str y) [.str z] H Q :=
  ⟨y, z, rfl, rfl, h0, sz hl, fun p np => by rw [e]; exact h p _ np (same_new np) upd_same⟩
def rIntS (xs : List V) (H : Hp) (Q : VK) : Prop := ∃ a n, xs = [.str a] ∧ PySem.intText? a = some n ∧ a.length ≤ 640 ∧ Q (.int n) H
theorem callIntS : CallR X (.type "int") rIntS := call_int_str
theorem c_intS {a : Str} {n : Int} (e : PySem.intText? a = some n) (hl : a.length ≤ 640) (h : Q (.int n) H) : rIntS [.str a] H Q := ⟨a, n, rfl, e, hl, h⟩
end
end Und
namespace Und
open PySem PySem.Spec PyProof.Rows L2
theorem c_par3 {i j l : Nat} {t : TA} {D : Ends} {σ : L2.St} {H : Hp} (h : t σ H fun vs H1 => ∃ u v w, vs = [u, v, w] ∧ D.nx (((σ.set i (some u)).set j (some v)).set l (some w)) H1) : tPar3 i j l t D σ H := h
theorem c_three {x y z : V} {R : V → V → V → Prop} (h : R x y z) : ∃ u v w, [x, y, z] = [u, v, w] ∧ R u v w := ⟨x, y, z, rfl, h⟩
end Und
/-! del xs[a:] of a list -/
namespace Und
open PySem PySem.Spec PyProof.Rows L2
theorem tail_bounds {a n : Nat} (ha : a ≤ n) : sliceBounds (some (a : Int)) none none n = ((a : Int), (n : Int), 1) := by
  have h0 : ¬ ((a : Int) < 0) := by omega
  simp only [sliceBounds, Option.getD_none, h0, if_false, show (1 : Int) > 0 by decide, if_true]
  congr 1
  omega
theorem keep_zip (sel : Nat → Bool) (a : Nat) : ∀ (xs : List Value) (k : Nat), (∀ j, k ≤ j → j < k + xs.length → sel j = decide (a ≤ j)) → (xs.zipIdx k).filterMap (fun x => if sel x.2 = true then none else some x.1) = xs.take (a - k)
  | [], k, _ => by simp
  | x :: xs, k, h => by
    have h0 := h k (Nat.le_refl _) (by simp)
    have ih := keep_zip sel a xs (k + 1) fun j h1 h2 => h j (by omega) (by simp; omega)
    rw [List.zipIdx_cons, List.filterMap_cons]
    dsimp only
    rw [h0]
    by_cases hk : a ≤ k
    · rw [decide_eq_true hk, if_pos rfl, show a - k = 0 from by omega, List.take_zero]
      dsimp only
      rw [ih, show a - (k + 1) = 0 from by omega, List.take_zero]
    · rw [decide_eq_false hk, if_neg Bool.false_ne_true, show a - k = (a - (k + 1)) + 1 from by omega, List.take_succ_cons]
      dsimp only
      rw [ih]
theorem keep_of (sel : Nat → Bool) {a n : Nat} (hs : ∀ j : Nat, sel j = (decide ((a : Int) ≤ (j : Int)) && decide ((j : Int) < (n : Int)) && (((j : Int) - (a : Int)) % 1 == 0))) (xs : Array Value) (hn : xs.size = n) :
    (xs.toList.zipIdx.filterMap fun x => if sel x.2 = true then none else some x.1).toArray = (xs.toList.take a).toArray := by
  have e := keep_zip sel a xs.toList 0 fun j _ h2 => by
    rw [hs j, Int.emod_one, show ((0 : Int) == 0) = true from rfl, Bool.and_true]
    have hl : j < n := by
      rw [← hn]
      simpa using h2
    rw [decide_eq_true (show (j : Int) < (n : Int) by omega), Bool.and_true]
    by_cases ha : a ≤ j
    · rw [decide_eq_true ha, decide_eq_true (by omega)]
    · rw [decide_eq_false ha, decide_eq_false (by omega)]
  rw [Nat.sub_zero] at e
  exact congrArg List.toArray e
section
variable {prog : Program} {w : World} {A : Around} {E : Value → Shared → Prop} {s : Shared}
theorem upd_any {l : Addr} {items : Array Value} {n : Nat} {f : Array Value → Array Value} {Q : Unit → Shared → Prop} (e : s.heap.get? l = some { cls := .type "list", data := .seq items n }) (hz : items.size ≤ sizeLine) (hf : (f items).size ≤ sizeLine + 1)
    (h : Q () { s with heap := s.heap.update l (Obj.mapSeq f) }) : wpAny (model prog w) A (Builtin.List.listUpdate (.ref l) f) Q E s := wpAny_updateSeq (hz := hz) (_hz' := hf) e rfl h
theorem del_tail {l sl : Addr} {items : Array Value} {n a : Nat} {vl : Value} {Q : Unit → Shared → Prop} (e : s.heap.get? l = some { cls := .type "list", data := .seq items n }) (hs : s.heap.IsSliceOf sl vl .none .none) (pl : IsPart vl (some (a : Int))) (ha : a ≤ items.size) (hz : items.size ≤ sizeLine)
    (h : ∀ f : Array Value → Array Value, (∀ xs : Array Value, xs.size = items.size → f xs = (xs.toList.take a).toArray) → Q () { s with heap := s.heap.update l (Obj.mapSeq f) }) : wpAny (model prog w) A (delItem (.ref l) (.ref sl)) Q E s := by
  have tl : s.heap.IsList l items := PySem.IsL.isList e
  obtain ⟨ob, g, gc, gd⟩ := id hs
  have ts : s.TypeIs (.ref sl) "slice" := ⟨ob, g, gc⟩
  have nz : ¬ ((rawPart none == rawInt 0) = true) := Bool.false_ne_true
  refine wpAny_delItem_slot tl.typeIs (by decide) PySem.F.slot_list_delitem (wpAny_call_entry PySem.F.slot_list_delitem tl.typeIs PySem.F.entry_list_delitem ?_ (PySem.F.args_list_delitem_2 _ _))
  show wpAny _ _ (Builtin.List.listSubscript? (.ref sl) >>= _) _ _ s
  refine wpAny_bind (m := Builtin.List.listSubscript? (.ref sl)) ?_; unfold Builtin.List.listSubscript?
  refine wpAny_bind (wpAny_specialOf ts slice_no_index ?_); simp only [Option.isNone_none, if_true]; refine wpAny_pure ?_
  show wpAny _ _ (typeOf (.ref sl) >>= _) _ _ s
  refine wpAny_bind (wpAny_typeOf ts ?_); refine PySem.W.KFB.if_not (by decide) ?_; rw [listSliceParts_eq]
  refine wpAny_bind (wpAny_bind (wpAny_field g gd (x := .none) rfl (wpAny_bind (wpAny_listPart .none ?_)))); rw [if_neg nz]
  refine wpAny_bind (wpAny_field g gd (x := vl) rfl (wpAny_bind (wpAny_listPart pl ?_)))
  refine wpAny_bind (wpAny_field g gd (x := .none) rfl (wpAny_bind (wpAny_listPart .none (wpAny_pure ?_))))
  refine wpAny_bind (m := Builtin.List.listItems (.ref l)) ?_; unfold Builtin.List.listItems; refine wpAny_bind (wpAny_seqItems e rfl (wpAny_pure ?_))
  refine wpAny_bind (wpAny_of_eq ((sliceIndices_raw (some (a : Int)) none none items.size (by simp)).trans (congrArg (pure : Int × Int × Int → Sem (Int × Int × Int)) (tail_bounds ha))) ?_)
  refine wpAny_bind (wpAny_rule (wpAny_bind (upd_any e hz ?_ ?_)))
  · have k := keep_of _ (a := a) (n := items.size) (fun j => rfl) items rfl
    refine Nat.le_trans (Nat.le_of_eq (congrArg Array.size k)) ?_
    rw [List.size_toArray, List.length_take, Array.length_toList]
    omega
  · exact wpAny_bind (wpAny_letGo (wpAny_pure ⟨_, rfl, h _ fun xs hx => keep_of _ (fun j => rfl) xs hx⟩))
end
end Und
namespace Und
open PySem PySem.Spec PyProof.Rows L2
section
variable {X : Cx}
theorem del_tail_I {pins : List (Addr × Obj)} {s : Shared} {σ : L2.St} {H : Hp} {l sl : Addr} {xs : List V} {a : Int} {vl : Value} {Q : Unit → Shared → Prop} (I : Inv X pins σ H s) (hH : H l = some (.lst xs)) (hs : s.heap.IsSliceOf sl vl .none .none) (ra : RelV (.int a) vl) (h0 : 0 ≤ a) (ha : a ≤ xs.length)
    (h : ∀ s', Inv X pins σ (upd H l (.lst (xs.take a.toNat))) s' → Q () s') : wpAny (model X.prog X.w) X.A (delItem (.ref l) (.ref sl)) Q X.xe s := by
  obtain ⟨ta, rfl⟩ := ra
  obtain ⟨z, its, n, r, hl, e⟩ := I.lstM hH
  obtain ⟨k, rfl⟩ := Int.eq_ofNat_of_zero_le h0
  rw [Int.toNat_natCast] at h
  refine del_tail (a := k) e hs (.int _ _) (by rw [List.size_toArray]; omega) (by rw [List.size_toArray]; omega) fun f hf => h _ ?_
  refine I.lset (its' := its.take k) (t' := s.toks) hH e (hf _ rfl) (r.take k) ?_
  rw [List.length_take]
  omega
/-- del o[lo:] of a list -/
def rDelT (x y : V) (H : Hp) (N : Hp → Prop) : Prop := ∃ l xs a, x = .ref l ∧ y = .int a ∧ H l = some (.lst xs) ∧ 0 ≤ a ∧ a ≤ xs.length ∧ N (upd H l (.lst (xs.take a.toNat)))
def tDelT (to tl : TE) : TS := fun D σ H => to σ H fun x H1 => tl σ H1 fun y H2 => rDelT x y H2 fun H3 => D.nx σ H3
theorem c_delT {to tl : TE} {D : Ends} {σ : L2.St} {H : Hp} (h : to σ H fun x H1 => tl σ H1 fun y H2 => rDelT x y H2 fun H3 => D.nx σ H3) : tDelT to tl D σ H := h
theorem c_rDelT {l : Addr} {xs : List V} {a : Nat} {H : Hp} {N : Hp → Prop} (e : H l = some (.lst xs)) (ha : a ≤ xs.length) (h : N (upd H l (.lst (xs.take a)))) : rDelT (.ref l) (.int (a : Int)) H N := ⟨l, xs, a, rfl, rfl, e, Int.natCast_nonneg a, by omega, by rw [Int.toNat_natCast]; exact h⟩
theorem ps_delT {o lo : Expr} {to tl : TE} {p tpos pos : Pos} (ho : PE X o to) (hl : PE X lo tl) : PS X (.Delete [.Subscript o (.Slice (some lo) none none p) tpos] pos) (tDelT to tl) := by
  refine ⟨fun pins s σ H D I h => ?_⟩
  refine wpAny_Delete (wpAny_deleteEach_cons (wpAny_delete_Subscript (thn (ho.run pins s σ H _ I h) fun u s1 ⟨x, H1, I1, rx, q1⟩ => wpAny_Slice (thn (hl.run pins s1 σ H1 _ I1 q1) fun v s2 ⟨y, H2, I2, ry, q2⟩ => ?_))))
  obtain ⟨l, xs, a, rfl, rfl, hH, h0, ha, q3⟩ := q2
  cases (show u = Value.ref l from rx)
  rw [evalPart_none]
  refine wpAny_pure (wpAny_pure ?_)
  have I3 := I2.kept (t' := s2.toks) (h' := s2.heap.push { cls := .type "slice", data := .fields #[v, .none, .none] }) fun b ob q => Heap.get?_push_of_some _ q
  exact del_tail_I I3 hH (Heap.IsSliceOf.new ..) ry h0 ha fun s3 I4 => wpAny_deleteEach_nil ⟨σ, _, I4, q3⟩
end
end Und
/-! data that is compared -/
namespace Und
open PySem PySem.Spec PyProof.Rows L2
/-- a tuple of texts, as data -/
def dNames (ns : List Str) : PyData := .tuple (ns.map .str)
def dInts (ns : List Int) : PyData := .list (ns.map .int)
section
variable {K : PySem.W.Frag} {H H' : Hp} {Q : VK} {x y v : V} {d e : PyData}
theorem dpAll_strs : ∀ ns : List Str, DpAll K H (ns.map V.str) (ns.map PyData.str)
  | [] => .nil
  | z :: r => .cons (.str z) (dpAll_strs r)
theorem dpAll_ints : ∀ ns : List Int, DpAll K H (ns.map V.int) (ns.map PyData.int)
  | [] => .nil
  | z :: r => .cons (.int z) (dpAll_ints r)
theorem dp_names {a : Addr} {ns : List Str} (h : SqT K H a (ns.map V.str)) : Dp K H (.ref a) (dNames ns) := .tup h (dpAll_strs ns)
theorem dp_ints {a : Addr} {ns : List Int} (h : SqL K H a (ns.map V.int)) : Dp K H (.ref a) (dInts ns) := .lst h (dpAll_ints ns)
theorem low_ok {z : Str} (h : Low z) : PyData.strOk z = true := by
  unfold PyData.strOk
  rw [Array.all_eq_true_iff_forall_mem]
  intro c hc
  have := h c (by simpa using hc)
  exact decide_eq_true (by omega)
theorem canAll_strs : ∀ ns : List Str, (∀ z ∈ ns, PyData.strOk z = true) → PyData.canLayAll0 (ns.map PyData.str) = true
  | [], _ => by simp [PyData.canLayAll0]
  | z :: r, h => by
    rw [List.map_cons]
    unfold PyData.canLayAll0
    rw [canAll_strs r fun y hy => h y (List.mem_cons_of_mem _ hy)]
    unfold PyData.canLay0
    rw [h z List.mem_cons_self]
    rfl
theorem depthAll_strs : ∀ ns : List Str, PyData.depthAll (ns.map PyData.str) = 0
  | [] => by simp [PyData.depthAll]
  | z :: r => by
    rw [List.map_cons]
    unfold PyData.depthAll
    rw [depthAll_strs r]
    simp [PyData.depth]
theorem canAll_ints : ∀ ns : List Int, PyData.canLayAll0 (ns.map PyData.int) = true
  | [] => by simp [PyData.canLayAll0]
  | z :: r => by
    rw [List.map_cons]
    unfold PyData.canLayAll0
    rw [canAll_ints r]
    simp [PyData.canLay0]
theorem depthAll_ints : ∀ ns : List Int, PyData.depthAll (ns.map PyData.int) = 0
  | [] => by simp [PyData.depthAll]
  | z :: r => by
    rw [List.map_cons]
    unfold PyData.depthAll
    rw [depthAll_ints r]
    simp [PyData.depth]
/-- data within some depth that can be laid -/
structure DOk (d : PyData) (n : Nat) : Prop where
  lay : d.canLay0 = true
  dep : d.depth ≤ n
theorem DOk.shaped {n : Nat} (h : DOk d n) (hn : n ≤ 64) : SeqAt.shaped d = true := by
  unfold SeqAt.shaped
  rw [h.lay, Bool.true_and]
  exact decide_eq_true (Nat.le_trans h.dep hn)
theorem DOk.mono {n m : Nat} (h : DOk d n) (l : n ≤ m) : DOk d m := ⟨h.lay, Nat.le_trans h.dep l⟩
theorem dok_names {ns : List Str} (h : ∀ z ∈ ns, Low z) : DOk (dNames ns) 1 := by
  refine ⟨?_, ?_⟩
  · unfold dNames PyData.canLay0
    exact canAll_strs ns fun z hz => low_ok (h z hz)
  · unfold dNames PyData.depth
    rw [depthAll_strs]
    exact Nat.le_refl _
theorem dok_ints (ns : List Int) : DOk (dInts ns) 1 := by
  refine ⟨?_, ?_⟩
  · unfold dInts PyData.canLay0
    exact canAll_ints ns
  · unfold dInts PyData.depth
    rw [depthAll_ints]
    exact Nat.le_refl _
theorem dok_list {ds : List PyData} {n : Nat} (h : ∀ d ∈ ds, DOk d n) : DOk (.list ds) (n + 1) ∧ DOk (.tuple ds) (n + 1) := by
  have e1 : PyData.canLayAll0 ds = true := by
    induction ds with
    | nil => simp [PyData.canLayAll0]
    | cons d r ih =>
      unfold PyData.canLayAll0
      rw [(h d List.mem_cons_self).lay, ih fun y hy => h y (List.mem_cons_of_mem _ hy)]
      rfl
  have e2 : PyData.depthAll ds ≤ n := by
    induction ds with
    | nil => simp [PyData.depthAll]
    | cons d r ih =>
      unfold PyData.depthAll
      have a := (h d List.mem_cons_self).dep
      have b := ih (fun y hy => h y (List.mem_cons_of_mem _ hy)) (by
        unfold PyData.canLayAll0 at e1
        exact (Bool.and_eq_true_iff.mp e1).2)
      exact Nat.max_le.mpr ⟨a, b⟩
  refine ⟨⟨?_, ?_⟩, ⟨?_, ?_⟩⟩
  · unfold PyData.canLay0
    exact e1
  · unfold PyData.depth
    omega
  · unfold PyData.canLay0
    exact e1
  · unfold PyData.depth
    omega
theorem eqvAll_strs : ∀ ns ms : List Str, PyData.eqvAll (ns.map PyData.str) (ms.map PyData.str) = decide (ns = ms)
  | [], [] => by simp [PyData.eqvAll]
  | [], _ :: _ => by simp [PyData.eqvAll]
  | _ :: _, [] => by simp [PyData.eqvAll]
  | a :: r, b :: t => by
    rw [List.map_cons, List.map_cons]
    unfold PyData.eqvAll
    rw [eqvAll_strs r t]
    unfold PyData.eqv
    by_cases h : a = b
    · subst h
      simp
    · simp [h]
theorem eqv_names (ns ms : List Str) : PyData.eqv (dNames ns) (dNames ms) = decide (ns = ms) := by
  unfold dNames PyData.eqv
  exact eqvAll_strs ns ms
theorem eqvAll_ints : ∀ ns ms : List Int, PyData.eqvAll (ns.map PyData.int) (ms.map PyData.int) = decide (ns = ms)
  | [], [] => by simp [PyData.eqvAll]
  | [], _ :: _ => by simp [PyData.eqvAll]
  | _ :: _, [] => by simp [PyData.eqvAll]
  | a :: r, b :: t => by
    rw [List.map_cons, List.map_cons]
    unfold PyData.eqvAll
    rw [eqvAll_ints r t]
    unfold PyData.eqv
    by_cases h : a = b
    · subst h
      simp
    · simp [h]
theorem eqv_ints (ns ms : List Int) : PyData.eqv (dInts ns) (dInts ms) = decide (ns = ms) := by
  unfold dInts PyData.eqv
  exact eqvAll_ints ns ms
mutual
theorem eqv_same : ∀ (d : PyData), d.canLay0 = true → PyData.eqv d d = true
  | .none, _ => by simp [PyData.eqv]
  | .bool _, _ => by simp [PyData.eqv]
  | .int _, _ => by simp [PyData.eqv]
  | .str _, _ => by simp [PyData.eqv]
  | .list xs, h => by
    unfold PyData.eqv
    exact eqvAll_same xs (by unfold PyData.canLay0 at h; exact h)
  | .tuple xs, h => by
    unfold PyData.eqv
    exact eqvAll_same xs (by unfold PyData.canLay0 at h; exact h)
  | .dict _, h => by
    unfold PyData.canLay0 at h
    cases h
theorem eqvAll_same : ∀ (ds : List PyData), PyData.canLayAll0 ds = true → PyData.eqvAll ds ds = true
  | [], _ => by simp [PyData.eqvAll]
  | d :: r, h => by
    unfold PyData.canLayAll0 at h
    unfold PyData.eqvAll
    rw [eqv_same d (Bool.and_eq_true_iff.mp h).1, eqvAll_same r (Bool.and_eq_true_iff.mp h).2]
    rfl
end
theorem c_eqD {n m : Nat} (hd : Dp K H x d) (he : Dp K H y e) (od : DOk d n) (oe : DOk e m) (ln : n ≤ 64) (lm : m ≤ 64) (h : Q (.bl (PyData.eqv d e)) H) : rEqD K x y H Q := ⟨d, e, hd, he, od.shaped ln, oe.shaped lm, h⟩
theorem c_neD {n m : Nat} (hd : Dp K H x d) (he : Dp K H y e) (od : DOk d n) (oe : DOk e m) (ln : n ≤ 64) (lm : m ≤ 64) (h : Q (.bl (!PyData.eqv d e)) H) : rNeD K x y H Q := ⟨d, e, hd, he, od.shaped ln, oe.shaped lm, h⟩
/-- two equal things of data are seen to be equal -/
theorem c_neD1 {n : Nat} (hd : Dp K H x d) (he : Dp K H y d) (od : DOk d n) (ln : n ≤ 64) (h : Q (.bl false) H) : rNeD K x y H Q := ⟨d, d, hd, he, od.shaped ln, od.shaped ln, by rw [eqv_same d od.lay]; exact h⟩
theorem c_eqD1 {n : Nat} (hd : Dp K H x d) (he : Dp K H y d) (od : DOk d n) (ln : n ≤ 64) (h : Q (.bl true) H) : rEqD K x y H Q := ⟨d, d, hd, he, od.shaped ln, od.shaped ln, by rw [eqv_same d od.lay]; exact h⟩
end
end Und
/-! readings of dicts, of a class called by a local name, of name op= e, a = b = e, sorted, great products: with heads that are constants -/
namespace Und
open PySem PySem.Spec PyProof.Rows L2
def rDG (x y : V) (H : Hp) (Q : VK) : Prop := ∃ a v, x = .ref a ∧ DGet H a y (some v) ∧ Q v H
def tDG (td ty : TE) : TE := fun σ H Q => td σ H fun x H1 => ty σ H1 fun y H2 => rDG x y H2 Q
def rDN (y x : V) (H : Hp) (Q : VK) : Prop := ∃ a o, x = .ref a ∧ DGet H a y o ∧ Q (.bl (!o.isSome)) H
def tDN (ty td : TE) : TE := fun σ H Q => ty σ H fun y H1 => td σ H1 fun x H2 => rDN y x H2 Q
def rDP (x y v : V) (H : Hp) (N : Hp → Prop) : Prop := ∃ a H4, x = .ref a ∧ DPut H a y v H4 ∧ N H4
def tDP (td ty tv : TE) : TS := fun D σ H => tv σ H fun v H1 => td σ H1 fun x H2 => ty σ H2 fun y H3 => rDP x y v H3 fun H4 => D.nx σ H4
def tNewD : TE := tDNewK
section
variable {X : Cx} {td ty tv te : TE} {o i e : Expr} {pos pos' : Pos}
theorem peDG (hu : X.A.units + 1 < cLine) (ho : PE X o td) (hi : PE X i ty) (hs : NoSl i) : PE X (.Subscript o i pos) (tDG td ty) := pe_dget hu ho hi hs
theorem pcDN (hu : X.A.units + 1 < cLine) (hi : PE X i ty) (ho : PE X o td) : PC X .NotIn i o (tDN ty td) := pc_dnotin hu hi ho
theorem psDP {v : Expr} (hu : X.A.units + 1 < cLine) (ho : PE X o td) (hi : PE X i ty) (hv : PE X v tv) (hs : swapsWith v (some (.Subscript o i pos')) pos.line X.env = pure false := by rfl) : PS X (.Assign [.Subscript o i pos'] v pos) (tDP td ty tv) := ps_dput hu ho hi hv hs
end
section
variable {K : PySem.W.Frag} {σ : L2.St} {H : Hp} {Q : VK} {D : Ends} {td ty tv te : TE} {a : Addr} {x y v : V}
theorem c_dg (h : td σ H fun x H1 => ty σ H1 fun y H2 => rDG x y H2 Q) : tDG td ty σ H Q := h
theorem c_rDG (g : DGet H a y (some v)) (h : Q v H) : rDG (.ref a) y H Q := ⟨a, v, rfl, g, h⟩
theorem c_rDGk {kvs : List (Key × V)} {k : Key} (e : H a = some (.dK kvs)) (hv : valV kvs k = some v) (h : Q v H) : rDG (.ref a) (kV k) H Q := ⟨a, v, rfl, hv ▸ DGet.k e, h⟩
theorem c_dn (h : ty σ H fun y H1 => td σ H1 fun x H2 => rDN y x H2 Q) : tDN ty td σ H Q := h
theorem c_rDN {o : Option V} {b : Bool} (g : DGet H a y o) (e : (!o.isSome) = b) (h : Q (.bl b) H) : rDN y (.ref a) H Q := ⟨a, o, rfl, g, by rw [e]; exact h⟩
theorem c_dp (h : tv σ H fun v H1 => td σ H1 fun x H2 => ty σ H2 fun y H3 => rDP x y v H3 fun H4 => D.nx σ H4) : tDP td ty tv D σ H := h
theorem c_rDP {N : Hp → Prop} {kvs : List (Key × V)} {k : Key} (e : H a = some (.dK kvs)) (hl : kvs.length < 100000) (h : N (upd H a (.dK (putK kvs k v)))) : rDP (.ref a) (kV k) v H N := ⟨a, _, rfl, .k e (szl hl), h⟩
theorem c_dnew (h : ∀ p H2, H p = none → Same H H2 → H2 p = some (.dK []) → Q (.ref p) H2) : tDNewK σ H Q := fun p np => h p _ np (same_new np) upd_same
/-! ### name op= e -/
def rIpA (x y : V) (H : Hp) (Q : VK) : Prop := ipI (fun i j => i + j) x y H Q
def tAugA (i : Nat) (te : TE) : TS := fun D σ H => ∃ x, σ[i]? = some (some x) ∧ te σ H fun y H1 => rIpA x y H1 fun z H2 => D.nx (σ.set i (some z)) H2
theorem psAugA {X : Cx} {i : Nat} {x : Str} {e : Expr} {te : TE} {pos pos' : Pos} (hN : X.N.Nodup) (hi : X.N[i]? = some x) (hx : Loc X.env.scope x) (he : PE X e te) (hf : X.fn x = true ∨ X.env.scope.names.lookup x = some .local := by first | exact .inl rfl | exact .inr rfl | assumption) :
    PS X (.AugAssign (.Name x pos') .Add e pos) (tAugA i te) := ps_aug hN hi hx he ip_add hf
theorem c_augA {i : Nat} {x : V} (e : σ[i]? = some (some x)) (h : te σ H fun y H1 => rIpA x y H1 fun z H2 => D.nx (σ.set i (some z)) H2) : tAugA i te D σ H := ⟨x, e, h⟩
theorem c_rIpA {i j : Int} (h : Q (.int (i + j)) H) : rIpA (.int i) (.int j) H Q := ⟨i, j, rfl, rfl, h⟩
theorem c_asg22 {g1 g2 : TG} (h : te σ H fun x H1 => g1 x σ H1 fun σ1 H2 => g2 x σ1 H2 D.nx) : tAsg2 te g1 g2 D σ H := h
/-! ### sorted -/
def rSrt (K : PySem.W.Frag) : List V → Hp → VK → Prop := fun vs H Q => ∃ (a : Addr) (ns : List Int), vs = [V.ref a] ∧ SqL K H a (ns.map V.int) ∧ ∀ (ns' : List Int) (p : Addr), ns'.Perm ns → ns'.Pairwise (· ≤ ·) → H p = none → Q (.ref p) (upd H p (.lst (ns'.map V.int)))
theorem crSrt {X : Cx} {K : PySem.W.Frag} (h : X.K = K := by rfl) : CallR X (.builtin "sorted") (rSrt K) := h ▸ cr_sortedI
theorem c_srt {ns : List Int} (e : SqL K H a (ns.map V.int)) (h : ∀ (ns' : List Int) p H2, ns'.Perm ns → ns'.Pairwise (· ≤ ·) → H p = none → Same H H2 → H2 p = some (.lst (ns'.map V.int)) → Q (.ref p) H2) : rSrt K [.ref a] H Q :=
  ⟨a, ns, rfl, e, fun ns' p hp hs np => h ns' p _ hp hs np (same_new np) upd_same⟩
end
theorem c_cmeth {C : Addr} {sp : Sp} {E : XK} {ta : TE} {t : TA} {σ : L2.St} {H : Hp} {Q : VK} (h : ta σ H fun x H1 => x = .ref C ∧ t σ H1 fun vs H2 => sp (.ref C :: vs) H2 Q E) : ClX.tCMeth C sp E ta t σ H Q := h
def natI (D : List Nat) : List V := D.map fun j : Nat => V.int (Int.ofNat j)
theorem natI_len (D : List Nat) : (natI D).length = D.length := List.length_map ..
theorem natI_app (D E : List Nat) : natI (D ++ E) = natI D ++ natI E := List.map_append ..
theorem natI_get {D : List Nat} {i : Nat} {x : V} (h : (natI D)[i]? = some x) : ∃ j : Nat, D[i]? = some j ∧ x = .int (j : Int) := by
  unfold natI at h
  rw [List.getElem?_map] at h
  cases e : D[i]? with
  | none => rw [e] at h; cases h
  | some j =>
    rw [e] at h
    exact ⟨j, rfl, (Option.some.inj h).symm⟩
theorem natI_at {D : List Nat} {i j : Nat} (h : D[i]? = some j) : (natI D)[i]? = some (.int (j : Int)) := by
  unfold natI
  rw [List.getElem?_map, h]
  rfl
theorem rgV_nat (n : Nat) : rgV 0 (n : Int) = natI (List.range n) := by
  unfold rgV natI
  rw [show ((n : Int) - 0).toNat = n by omega]
  refine List.map_congr_left fun i _ => ?_
  rw [Int.zero_add]
  rfl
def rLR1 (x : V) (H : Hp) (Q : VK) : Prop := ∃ n, x = .int n ∧ RgOk 0 n ∧ ∀ q, H q = none → Q (.ref q) (upd H q (.lst (rgV 0 n)))
theorem c_lstRg1 {ta : TE} {σ : L2.St} {H : Hp} {Q : VK} (h : ta σ H fun x H1 => rLR1 x H1 Q) : tLstRg (tRg1 ta) σ H Q := h
theorem c_rLR1 {n : Nat} {H : Hp} {Q : VK} (hn : n ≤ 100000) (h : ∀ p H2, H p = none → Same H H2 → H2 p = some (.lst (natI (List.range n))) → Q (.ref p) H2) : rLR1 (.int (n : Int)) H Q :=
  ⟨n, rfl, .of_le (by omega) (by omega) (by omega) (by omega), fun q nq => by
    rw [rgV_nat]
    exact h q _ nq (same_new nq) upd_same⟩
/-! ### tuples of numbers -/
theorem inV_nat (a : Nat) : ∀ ns : List Nat, inV (.int (a : Int)) (natI ns) = decide (a ∈ ns)
  | [] => by simp [inV, natI]
  | n :: ns => by
    have ih := inV_nat a ns
    unfold inV at ih ⊢
    rw [show natI (n :: ns) = V.int (n : Int) :: natI ns from rfl, List.any_cons, ih]
    by_cases h : n = a
    · subst h
      simp [eqV]
    · have h2 : ¬ a = n := fun z => h z.symm
      have h3 : ¬ (n : Int) = (a : Int) := fun z => h (by omega)
      simp [eqV, h2, h3]
theorem flat_nat (ns : List Nat) : (natI ns).all flatV = true := by
  rw [List.all_eq_true]
  intro x hx
  obtain ⟨n, _, rfl⟩ := List.mem_map.mp hx
  rfl
theorem c_inNT {K : PySem.W.Frag} {p : Addr} {a : Nat} {ns : List Nat} {b : Bool} {H : Hp} {Q : VK} (e : SqT K H p (natI ns)) (hb : decide (a ∈ ns) = b) (h : Q (.bl b) H) : rIn K false (.int (a : Int)) (.ref p) H Q := by
  refine ⟨p, _, rfl, .inr e, rfl, flat_nat ns, ?_⟩
  rw [if_neg Bool.false_ne_true, inV_nat, hb]
  exact h
def dNats (ns : List Nat) : PyData := .tuple (ns.map fun j : Nat => .int (j : Int))
theorem dp_nats {K : PySem.W.Frag} {H : Hp} {a : Addr} {ns : List Nat} (h : SqT K H a (natI ns)) : Dp K H (.ref a) (dNats ns) := by
  have e : ∀ ns : List Nat, DpAll K H (natI ns) (ns.map fun j : Nat => PyData.int (j : Int)) := fun ns => by
    have := dpAll_ints (K := K) (H := H) (ns.map fun j : Nat => (j : Int))
    rw [List.map_map, List.map_map] at this
    exact this
  exact .tup h (e ns)
theorem dok_nats (ns : List Nat) : DOk (dNats ns) 1 := by
  refine (dok_list (n := 0) fun d hd => ?_).2
  obtain ⟨j, _, rfl⟩ := List.mem_map.mp hd
  exact ⟨by simp [PyData.canLay0], by simp [PyData.depth]⟩
/-! ### a cut: what holds behind a statement, whichever way it went -/
theorem cut_seq {t1 t2 : TS} {D : Ends} {σ : L2.St} {H : Hp} (R : L2.St → Hp → Prop) (h1 : ∀ N : L2.St → Hp → Prop, (∀ σ' H', R σ' H' → N σ' H') → t1 { D with nx := N } σ H) (h2 : ∀ σ' H', R σ' H' → t2 D σ' H') : tSeq t1 t2 D σ H := h1 _ h2
theorem cut_val {te : TE} {σ : L2.St} {H : Hp} {Q : VK} (R : V → Hp → Prop) (h1 : ∀ N : VK, (∀ v H', R v H' → N v H') → te σ H N) (h2 : ∀ v H', R v H' → Q v H') : te σ H Q := h1 _ h2
theorem c_splitB {y z : Str} {ys : List Str} {H : Hp} {Q : VK} (e : Txt.split y z = ys) (h0 : (z.length == 0) = false) (hl : y.length + 2 ≤ sizeLine) (h : ∀ p H2, H p = none → Same H H2 → H2 p = some (.lst (ys.map V.str)) → Q (.ref p) H2) : rSplit (.str y) [.str z] H Q :=
  ⟨y, z, rfl, rfl, h0, hl, fun p np => by rw [e]; exact h p _ np (same_new np) upd_same⟩
theorem list_are {α : Type} {xs : List V} {l : List α} {f : α → V} (hl : xs.length = l.length) (h : ∀ (i : Nat) y, xs[i]? = some y → ∃ z, l[i]? = some z ∧ y = f z) : xs = l.map f := by
  refine List.ext_getElem? fun i => ?_
  rw [List.getElem?_map]
  cases e : xs[i]? with
  | none =>
    have h1 := List.getElem?_eq_none_iff.mp e
    rw [List.getElem?_eq_none_iff.mpr (by omega)]
    rfl
  | some y =>
    obtain ⟨z, ez, rfl⟩ := h i y e
    rw [ez]
    rfl
/-! ### C() by a local name that holds the class -/
def rMkL0 (C : Addr) (sp : Sp) (E : XK) (x : V) (H : Hp) (Q : VK) : Prop := x = .ref C ∧ rMkR C sp E [] H Q
def tMakeRL0 (i : Nat) (C : Addr) (sp : Sp) (E : XK) : TE := fun σ H Q => ∃ x, σ[i]? = some (some x) ∧ rMkL0 C sp E x H Q
theorem c_makeRL0 {i : Nat} {C : Addr} {sp : Sp} {E : XK} {σ : L2.St} {H : Hp} {Q : VK} (e : σ[i]? = some (some (.ref C))) (h : rMkR C sp E [] H Q) : tMakeRL0 i C sp E σ H Q := ⟨_, e, rfl, h⟩
section
variable {X : Cx} {CX : CXT} {k i : Nat} {f C : Addr} {sp : Sp} {E : XK} {x : Str} {p pos : Pos}
theorem pe_makeRL0 (M : Mk X.K C f) (F : FnR X.prog X.w X.K X.mg X.base CX k f sp) (hr : Room (k + 1) X.A) (hN : X.N[i]? = some x) (hv : Vis X.env.scope x) (hx : Passes CX X E) (hdb : (x == ("__debug__" : Str)) = false := by decide) (hcd : (x == ("__classdict__" : Str)) = false := by decide) :
    PE X (.Call (.Name x p) [] [] pos) (tMakeRL0 i C sp E) := by
  refine ⟨fun pins s σ H Q I h => ?_⟩
  obtain ⟨y, hs, ey, ht⟩ := h
  subst ey
  refine wpAny_Call_Name_kw (thn ((pe_var (pos := p) hN hv hdb hcd).run pins s σ H (fun v H1 => v = .ref C ∧ H1 = H) I ⟨.ref C, hs, rfl, rfl⟩) fun u s1 ⟨v, H1, I1, r1, q1⟩ => ?_)
  obtain ⟨rfl, rfl⟩ := q1
  cases r1
  exact PySem.W.callWith_K0 I1.kIn M.kp (StX.run_makeR (us := []) M F hr hx I1 .nil ht)
end
end Und
/-! definitions that print containers: a call with no printing under way -/
namespace Und
open PySem PySem.Spec PyProof.Rows L2
/-- no printing of a container is under way -/
def Still (A : Around) : Prop := A.guards = some []
theorem still_deeper {A : Around} {e : Env} (h : Still A) : Still (A.deeper e) := h
theorem still_caller : Still callerA := rfl
/-- a definition's promise where nothing is being printed -/
structure FnG (P : Program) (w : World) (K : PySem.W.Frag) (mg : Str → Option Value) (base : Heap) (CX : CXT) (k : Nat) (f : Addr) (fd : FuncData) (ps : List Str) (sp : Sp) : Prop where
  n : ∀ vs H Q E, sp vs H Q E → vs.length = ps.length
  go : ∀ (A : Around), Still A → Room k A → ∀ (outer : List Env) (s : Shared) (H : Hp) (args : Args) (us : List Value) (vs : List V) (Q : VK) (E : XK), Env0 P w K mg base A outer s H → BindsTo s fd args (ps.zip us) → Vals vs us → sp vs H Q E →
    codeAny (model P w) A (.call (.ref f) args) (CR CX outer P w H s Q E) s
section
variable {P : Program} {w : World} {K : PySem.W.Frag} {mg : Str → Option Value} {base : Heap} {CX : CXT} {j k : Nat} {f : Addr} {fd : FuncData} {ps N : List Str} {sp : Sp} {x qual : Str} {st : Stmt}
theorem FnG.of (F : FnOk P w K mg base CX k f fd ps sp) : FnG P w K mg base CX k f fd ps sp := ⟨F.len, fun A _ r o s H a us vs Q E => F.run A o s H a us vs Q E r⟩
theorem FnG.mono (F : FnG P w K mg base CX j f fd ps sp) (h : j ≤ k) : FnG P w K mg base CX k f fd ps sp := ⟨F.n, fun A g r => F.go A g (r.mono h)⟩
/-- by its body -/
theorem okG (F : Fun K x qual st f fd) (S : FnScope N ps (defScope st)) (n : ∀ vs H Q E, sp vs H Q E → vs.length = ps.length)
    (body : ∀ (cdv : Value) (A : Around) (outer : List Env) (s : Shared) (H : Hp) (vs : List V) (Q : VK) (E : XK), Still (A.deeper (envOfC qual (defScope st) s.heap.objs.size f cdv)) → Room k (A.deeper (envOfC qual (defScope st) s.heap.objs.size f cdv)) → sp vs H Q E →
      ∃ t, PSs (cxOf CX P w K mg base N qual (defScope st) f cdv A outer s H E) (defBody st) t ∧ t { nx := fun _ H' => Q .non H', rt := Q } (start N vs) H) : FnG P w K mg base CX (k + 1) f fd ps sp := by
  obtain ⟨oc, od, kV, doc, pm, an, cdv, ct, osl, rfl, lk, hcd⟩ := F.ex
  exact ⟨n, fun A g r outer s H args us vs Q E e0 b v h => LamX.run_ofS lk hcd S r e0 b v (n _ _ _ _ h) fun r' => body cdv A outer s H vs Q E g r' h⟩
theorem okG0 (F : Fun K x qual st f fd) (S : FnScope N ps (defScope st)) (n : ∀ vs H Q E, sp vs H Q E → vs.length = ps.length)
    (body : ∀ (cdv : Value) (A : Around) (outer : List Env) (s : Shared) (H : Hp) (vs : List V) (Q : VK) (E : XK), Still (A.deeper (envOfC qual (defScope st) s.heap.objs.size f cdv)) → Room k (A.deeper (envOfC qual (defScope st) s.heap.objs.size f cdv)) → sp vs H Q E →
      ∃ t, PSs (cxOf CX0 P w K mg base N qual (defScope st) f cdv A outer s H E).nox (defBody st) t ∧ t { nx := fun _ H' => Q .non H', rt := Q } (start N vs) H) : FnG P w K mg base CX0 (k + 1) f fd ps sp :=
  okG F S n fun cdv A outer s H vs Q E g r h => let ⟨t, p, q⟩ := body cdv A outer s H vs Q E g r h; ⟨t, p.nox, q⟩
end
section
variable {X : Cx} {CX : CXT} {k : Nat} {f : Addr} {fd : FuncData} {ps : List Str} {sp : Sp} {E : XK} {x : Str} {st : Stmt} {p pos : Pos} {e : Expr} {es : List Expr} {t : TA} {te : TE}
theorem callG {pins : List (Addr × Obj)} {σ : L2.St} {H : Hp} {s : Shared} {Q : VK} {us : List Value} {vs : List V} (F : FnG X.prog X.w X.K X.mg X.base CX k f fd ps sp) (g : Still X.A) (r : Room k X.A) (b : Binds X.K fd ps []) (ex : Passes CX X E)
    (I : Inv X pins σ H s) (v : Vals vs us) (h : sp vs H Q E) : wpAny (model X.prog X.w) X.A (call (.ref f) us) (EP X pins σ Q) X.xe s := by
  have hl : (us ++ []).length = ps.length := by
    rw [List.append_nil, ← v.length]
    exact F.n _ _ _ _ h
  have bb := b s us I.kIn hl
  rw [List.append_nil] at bb
  refine wpAny_call (codeAny_mono (F.go X.A g r X.stack s H ⟨us, []⟩ us vs Q E I.env0 bb v h) fun z s' q => ?_)
  match z, q with
  | .error e, q => exact ex pins σ H s e s' I q
  | .ok (.ret u), q => exact I.after q
/-- f(e, ..) of such a definition -/
theorem pcallG (D : FD X.K X.mg x st ps f fd) (F : FnG X.prog X.w X.K X.mg X.base CX k f fd ps sp) (g : Still X.A) (r : Room k X.A) (hg : Gl X x) (ex : Passes CX X E) (ha : PA X (e :: es) t) (hdb : (x == ("__debug__" : Str)) = false := by decide)
    (he : starEach (e :: es) X.env = (false, eval e X.env) :: starEach es X.env := by rfl) (hpl : (backTo pos (starEach es X.env)).any (·.1) = false := by rfl) : PE X (.Call (.Name x p) (e :: es) [] pos) (tCall sp [] E t) :=
  ⟨fun pins s σ H Q I h => wpAny_Call_Name_kw (ld_glob I hg D.m (PySem.W.callWith_K (h₀ := X.base) I.ok.mod.kin D.F.kp (thn (ha.run pos pins s σ H _ I h) fun us s1 ⟨vs, H1, I1, v, q⟩ => ⟨I1.kIn, callG F g r D.b ex I1 v (by have q' : sp (vs ++ []) H1 Q E := q; rw [List.append_nil] at q'; exact q')⟩) he hpl) hdb)⟩
/-! ### repr -/
/-- repr of data; K is named -/
def crRepr (K : PySem.W.Frag) : List V → Hp → VK → Prop := fun xs H Q => ∃ (a : Addr) (d : PyData), xs = [.ref a] ∧ Dp K H (.ref a) d ∧ d.showable = true ∧ d.hasDict = false ∧ d.depth ≤ 32 ∧ d.shown.length ≤ sizeLine ∧ Q (.str d.shown) H
theorem cr_repr (g : Still X.A) (r : Room k X.A) : CallR X (.builtin "repr") (crRepr X.K) := by
  intro pins s σ H xs us Q I v h
  obtain ⟨a, d, rfl, hd, hs, hn, hz, hl, q⟩ := h
  obtain ⟨u, rfl, hu⟩ : ∃ u, us = [u] ∧ u = Value.ref a := by
    cases v with
    | cons h1 h2 =>
      cases h2
      exact ⟨_, rfl, h1⟩
  subst hu
  obtain ⟨as, rd⟩ := Dp.reads I d _ (.ref a) hd rfl
  have ru := r.units
  exact repr_of_reads' rd hs (fun z => by rw [hn] at z; cases z) g (by omega) (fun _ _ e => e) (fun h' u tk k => ⟨.str d.shown, H, I.kept k, ⟨u, rfl⟩, q⟩) hl
end
/-! ### the law's own call -/
section
variable {P : Program} {w : World} {K : PySem.W.Frag} {mg mb : Str → Option Value} {CX : CXT} {k : Nat} {fa a : Addr} {fd : FuncData} {x : Str} {sp : Sp} {s : Shared} {vs : List Value} {ns : List Int}
/-- how the script is seen: nothing else is, and all else is the base -/
structure Seen (K : PySem.W.Frag) (P : Program) (w : World) (s : Shared) (a : Addr) (ns : List Int) (H : Hp) : Prop where
  only : Only H
  seq : SqL K H a (ns.map V.int)
  ok : HOk P w H s.heap
  base : ∀ b o, s.heap.get? b = some o → H b = none ∨ (b = a ∧ K.lookup a = none)
theorem seen (KX : K.In s.heap) (ha : s.heap.get? a = some { cls := .type "list", data := .seq vs.toArray }) (hi : IntsAre vs ns) (hl : ns.length ≤ sizeLine) : ∃ H, Seen K P w s a ns H := by
  have rv := vals_ints hi
  have le := hi.length
  match hk : K.lookup a with
  | some o =>
    obtain rfl : o = _ := Option.some.inj ((KX a o hk).symm.trans ha)
    exact ⟨fun _ => none, fun _ => .inl rfl, .inr ⟨_, vs.toArray, _, hk, rfl, rfl, rfl, by rw [List.size_toArray, le]; exact hl, by simpa using rv⟩, (fun b u z => by cases (show (none : Option HO) = some u from z)), fun _ _ _ => .inl rfl⟩
  | none =>
    refine ⟨upd (fun _ => none) a (.frz { cls := .type "list", data := .seq vs.toArray } (.lst (ns.map V.int))), fun b => ?_, .inl (.inr ⟨_, upd_same⟩), fun b u z => ?_, fun b o e => ?_⟩
    · by_cases e : b = a
      · rw [e]
        exact .inr ⟨_, _, upd_same⟩
      · rw [upd_ne e]
        exact .inl rfl
    · by_cases e : b = a
      · rw [e, upd_same] at z
        cases z
        rw [e]
        exact ⟨ha, by rw [List.length_map]; exact hl, vs, _, rv, ha⟩
      · rw [upd_ne e] at z
        cases z
    · by_cases e : b = a
      · exact .inr ⟨e, hk⟩
      · rw [upd_ne e]
        exact .inl rfl
theorem Seen.at {H : Hp} {b : Addr} {o : Obj} (S : Seen K P w s a ns H) (e : s.heap.get? b = some o) (n : K.lookup b ≠ none ∨ b ≠ a) : (hidT s.heap H).get? b = some o :=
  hidT_get e ((S.base b o e).elim id fun ⟨h, h'⟩ => n.elim (fun q => absurd (h ▸ h') q) fun q => absurd h q)
theorem Seen.names {H : Hp} {b : Addr} {m : Str → Option Value} (S : Seen K P w s a ns H) (ha : s.heap.get? a = some { cls := .type "list", data := .seq vs.toArray }) (h : s.heap.Ns b m) : (hidT s.heap H).Ns b m := by
  obtain ⟨o, es, ep, e, d, r⟩ := h
  refine ⟨o, es, ep, S.at e (.inr fun z => ?_), d, r⟩
  rw [z, ha] at e
  cases e
  cases d
/-- the law's call with its script, where the promise holds while nothing is being printed -/
theorem law_callG (KX : K.In s.heap) (hns : s.heap.Ns mainGlobals mg) (hb : s.heap.Ns builtinsNs mb) (hbb : ∀ x : Str, x ≠ "__name__" → mb x = bootBuiltins x) (hlim : s.heap.NoLimit) (hg : s.gens = #[])
    (ha : s.heap.get? a = some { cls := .type "list", data := .seq vs.toArray }) (hi : IntsAre vs ns) (hl : ns.length ≤ sizeLine) (hr : Room k callerA)
    (F : ∀ base : Heap, K.In base → base.Ns mainGlobals mg → FnG P w K mg base CX k fa fd [x] sp) (hbind : ∀ (s : Shared) (u : Value), BindsTo s fd ⟨[u], []⟩ [(x, u)])
    (hsp : ∀ H : Hp, Only H → SqL K H a (ns.map V.int) → sp [.ref a] H (fun v _ => v = .bl true) fun _ _ _ => False)
    (hCX : ∀ H e s', CX [] H s (fun _ _ _ => False) e s' → False) :
    codeAny (model P w) callerA (.call (.ref fa) ⟨[.ref a], []⟩) (fun r s' => r = .ok (.ret (.bool true)) ∧ OldK s.heap s'.heap ∧ s'.os = s.os ∧ AllBare s'.gens) s := by
  obtain ⟨H, S⟩ := seen (P := P) (w := w) KX ha hi hl
  have kb : K.In (hidT s.heap H) := fun b o e => S.at (KX b o e) (.inl fun z => by rw [e] at z; cases z)
  have mod : Mod K mg (hidT s.heap H) := ⟨kb, S.names ha hns, ⟨mb, S.names ha hb, hbb⟩, hlim.elim fun mc h => ⟨mc, S.names ha h.1, h.2⟩⟩
  have no : ∀ b : Addr, b ∉ frs ([] : List Env) := fun b z => nomatch (show b ∈ ([] : List Addr) from z)
  have e0 : Env0 P w K mg (hidT s.heap H) callerA [] s H := ⟨rfl, mod, fun _ _ => of_hidT, Nat.le_of_eq (hidT_size _ _), trivial, fun b z => absurd z (no b), S.ok, .of_eq hg⟩
  refine codeAny_mono ((F _ kb mod.glob).go callerA still_caller hr [] s H _ [.ref a] [.ref a] _ _ e0 (hbind s (.ref a)) (.cons rfl .nil) (hsp H S.only S.seq)) fun r s' h => ?_
  match r, h with
  | .error e, h => exact (hCX H e s' h).elim
  | .ok (.ret u), ⟨v, H', os, bare, un, ok', rv, (qv : v = .bl true)⟩ =>
    subst qv
    obtain rfl : u = Value.bool true := rv
    refine ⟨rfl, OldK.of_keep fun b o e => ?_, os, bare⟩
    rcases S.only b with n | ⟨o', xs, n⟩
    · exact un.keep b o e n (no b) (by simp)
    · have o1 := (S.ok b _ n).1
      have o2 := (ok' b _ (un.frzs b o' _ n)).1
      rw [e] at o1
      cases o1
      exact o2
end
theorem walk_ofG {l : PySem.W.OpenLaw} {n k : Nat} {q : Program} {loose : List Str} {XP : (Str → Option Value) → Heap → Prop} {YP : World → Heap → Prop} {d : DefRec} {K : Params → PySem.W.Frag} {CX : World → CXT} {sp : World → Sp} {x : Str}
    (hn : l.most = some n) (hn2 : n ≤ sizeLine) (hdf : d.params.defaults = []) (hr : Room k callerA)
    (hY : ∀ (w : World) (h : Heap), YP w h → (K w.params).In h)
    (F : ∀ (w : World) (mg : Str → Option Value) (fa : Addr) (h : Heap), (K w.params).In h → h.Ns mainGlobals mg → mg d.name = some (.ref fa) →
      ∃ fd : FuncData, (∀ (s : Shared) (u : Value), BindsTo s fd ⟨[u], []⟩ [(x, u)]) ∧
        ∀ base : Heap, (K w.params).In base → base.Ns mainGlobals mg → FnG l.prog w (K w.params) mg base (CX w) k fa fd [x] (sp w))
    (hsp : ∀ (w : World) (H : Hp) (a : Addr) (ns : List Int), ns.length ≤ n → (∀ z ∈ ns, Builtin.Int.intBits z ≤ 1048576) → Only H → SqL (K w.params) H a (ns.map V.int) → sp w [.ref a] H (fun v _ => v = .bl true) fun _ _ _ => False)
    (hCX : ∀ (w : World) (H : Hp) (s : Shared) (e : Value) (s' : Shared), CX w [] H s (fun _ _ _ => False) e s' → False) :
    PySem.W.WalkO q loose XP YP l.row.toRowW d [] (fun f vs => PySem.call f vs) :=
  Att.attach_callB hn hdf fun w _ s mg mb fa _ _ _ _ a vs ns G Y _ _ _ hmg hobj hints hlen hbits hg =>
    let KX := hY w _ Y
    let ⟨fd, hb, hF⟩ := F w mg fa _ KX G.T.g hmg
    law_callG KX G.T.g G.T.b G.T.builtins G.T.nolimit hg hobj hints (Nat.le_trans hlen hn2) hr hF hb (fun H hO hS => hsp w H a ns hlen hbits hO hS) fun H e s' => hCX w H s e s'
end Und
/-! calls without arguments -/
namespace Und
open PySem PySem.Spec PyProof.Rows L2
section
variable {X : Cx} {CX : CXT} {k : Nat} {f : Addr} {fd : FuncData} {sp : Sp} {E : XK} {x : Str} {st : Stmt} {p pos : Pos}
theorem pcallG0 (D : FD X.K X.mg x st [] f fd) (F : FnG X.prog X.w X.K X.mg X.base CX k f fd [] sp) (g : Still X.A) (r : Room k X.A) (hg : Gl X x) (ex : Passes CX X E) (hdb : (x == ("__debug__" : Str)) = false := by decide) :
    PE X (.Call (.Name x p) [] [] pos) (tCall sp [] E tNil) :=
  ⟨fun pins s σ H Q I h => wpAny_Call_Name_kw (ld_glob I hg D.m (PySem.W.callWith_K0 I.kIn D.F.kp (callG (us := []) F g r D.b ex I .nil h)) hdb)⟩
theorem pcall0 (D : FD X.K X.mg x st [] f fd) (F : FnOk X.prog X.w X.K X.mg X.base CX k f fd [] sp) (r : Room k X.A) (hg : Gl X x) (ex : Passes CX X E) (hdb : (x == ("__debug__" : Str)) = false := by decide) :
    PE X (.Call (.Name x p) [] [] pos) (tCall sp [] E tNil) := pe_call0 F r hg D.m D.F.kp D.b .nil ex hdb
end
end Und
/-! methods called by keyword; len, repr and in of a class's own; f-strings -/
namespace Und
open PySem PySem.Spec PyProof.Rows L2
def gK (n m : Nat) {α : Type} (us ws : List α) : List α := if us.length = n ∧ ws.length = m then us ++ ws else []
theorem gK_rel {n m : Nat} {vs : List V} {us : List Value} {zs : List V} {ws : List Value} (a : Vals vs us) (b : Vals zs ws) : Vals (gK n m vs zs) (gK n m us ws) := by
  unfold gK
  rw [a.length, b.length]
  split
  · exact a.append b
  · exact .nil
section
variable {K : PySem.W.Frag} {x qual : Str} {params : Arguments} {body : List Stmt} {scope : Scope} {dvs : List V} {kws : List (Str × V)} {f : Addr} {fd : FuncData} {ps ks : List Str}
theorem kb0 (F : FunD K x qual params body scope [] kws f fd) (n : Nat) (hps : ps ≠ [])
    (h : ∀ (kV doc pm : Value) (an : Option Addr) (cdv ct : Value) (us ws : List Value), us.length = n → ws.length = ks.length → bindArgs (PySem.W.fnOf x qual params body scope .none kV doc pm an cdv ct) ⟨us, ks.zip ws⟩ = pure (ps.zip (us ++ ws))) :
    KBinds K fd ps ks (gK n ks.length) (gK n ks.length) := by
  obtain ⟨oc, od, dV, kV, doc, pm, an, cdv, ct, osl, rfl, lk, hcd, hD, hK⟩ := F.ex
  rcases hD with ⟨_, rfl⟩ | ⟨e, _⟩
  · refine ⟨fun s us ws _ hl => ?_, gK_rel⟩
    by_cases c : us.length = n ∧ ws.length = ks.length
    · have e : gK n ks.length us ws = us ++ ws := if_pos c
      rw [e]
      exact .of_eq (h kV doc pm an cdv ct us ws c.1 c.2)
    · have e : gK n ks.length us ws = [] := if_neg c
      rw [e] at hl
      exact absurd (List.length_eq_zero_iff.mp hl.symm) hps
  · exact absurd rfl e
theorem kb1 (F : FunD K x qual params body scope dvs kws f fd) (n : Nat) (hd : dvs ≠ []) (hps : ps ≠ [])
    (h : ∀ (T : Addr) (kV doc pm : Value) (an : Option Addr) (cdv ct : Value) (us ws its : List Value), us.length = n → ws.length = ks.length → its.length = dvs.length →
      ∃ k, bindArgs (PySem.W.fnOf x qual params body scope (.ref T) kV doc pm an cdv ct) ⟨us, ks.zip ws⟩ = seqItems? (.ref T) >>= k ∧ k (some its.toArray) = pure (ps.zip (us ++ ws))) :
    KBinds K fd ps ks (gK n ks.length) (gK n ks.length) := by
  obtain ⟨oc, od, dV, kV, doc, pm, an, cdv, ct, osl, rfl, lk, hcd, hD, hK⟩ := F.ex
  rcases hD with ⟨e, _⟩ | ⟨_, T, o, its, m, rfl, lT, oT, rT⟩
  · exact absurd e hd
  · refine ⟨fun s us ws X hl => ?_, gK_rel⟩
    by_cases c : us.length = n ∧ ws.length = ks.length
    · have e : gK n ks.length us ws = us ++ ws := if_pos c
      rw [e]
      obtain ⟨k, e1, e2⟩ := h T kV doc pm an cdv ct us ws its c.1 c.2 rT.length.symm
      refine BindsTo.of_looks fun M => ?_
      rw [e1]
      exact looks_items X lT oT (.of_pure e2)
    · have e : gK n ks.length us ws = [] := if_neg c
      rw [e] at hl
      exact absurd (List.length_eq_zero_iff.mp hl.symm) hps
end
section
variable {X : Cx} {CX : CXT} {k n : Nat} {C f g p : Addr} {mc : Value} {fd : FuncData} {ps ks : List Str} {sp : Sp} {E : XK} {o : Expr} {m : Str} {kws : List Keyword} {pos apos : Pos} {ta : TE} {tk : TA} {pl : Sem Bool}
theorem run_kw {pins : List (Addr × Obj)} {σ : L2.St} {H : Hp} {s : Shared} {Q : VK} {us ws : List Value} {vs zs : List V} (F : FnOk X.prog X.w X.K X.mg X.base CX k f fd ps sp) (hr : Room k X.A) (hb : KBinds X.K fd ps ks (gK vs.length ks.length) (gK vs.length ks.length)) (hx : Passes CX X E)
    (I : Inv X pins σ H s) (r : Vals vs us) (rz : Vals zs ws) (hz : zs.length = ks.length) (h : sp (vs ++ zs) H Q E) : codeAny (model X.prog X.w) X.A (.call (.ref f) ⟨us, ks.zip ws⟩) (fun r s' => match r with
      | .ok (.ret u) => EP X pins σ Q u s'
      | .ok _ => False
      | .error e => X.xe e s') s := by
  have r2 := hb.rel r rz
  have e : gK vs.length ks.length vs zs = vs ++ zs := if_pos ⟨rfl, hz⟩
  have hl : (gK vs.length ks.length us ws).length = ps.length := by
    rw [← r2.length, e]
    exact F.len _ _ _ _ h
  rw [e] at r2
  refine codeAny_mono (F.run X.A X.stack s H ⟨us, ks.zip ws⟩ _ (vs ++ zs) Q E hr I.env0 (hb.to s us ws I.kIn hl) r2 h) fun r s' hq => ?_
  match r, hq with
  | .error e, hq => exact hx pins σ H s e s' I hq
  | .ok (.ret u), hq => exact I.after hq
  | .ok .next, hq => exact hq
  | .ok .brk, hq => exact hq
  | .ok .cont, hq => exact hq
/-- o.m(k = v, ..) -/
def tMethK (C : Addr) (m : Str) (nk : Nat) (sp : Sp) (E : XK) (ta : TE) (tk : TA) : TE := fun σ H Q => ta σ H fun x H1 => ∃ a dx fs, x = .ref a ∧ H1 a = some (.ins C dx fs) ∧ fs.lookup m = none ∧ tk σ H1 fun zs H2 => zs.length = nk ∧ sp (.ref a :: zs) H2 Q E
theorem pe_methK0 (he : PE X o ta) (c : Cls X.K C) (hm : Meth X.K C m f) (F : FnOk X.prog X.w X.K X.mg X.base CX k f fd ps sp) (hr : Room k X.A) (hb : KBinds X.K fd ps ks (gK 1 ks.length) (gK 1 ks.length)) (hx : Passes CX X E) (hkw : PK X kws tk)
    (hall : (backToKw pos (keywordEach kws X.env)).all (·.1.isSome) = true := by rfl) (hks : (backToKw pos (keywordEach kws X.env)).filterMap (·.1) = ks := by rfl)
    (hpl : ((backTo pos (starEach [] X.env)).any (·.1) || (backToKw pos (keywordEach kws X.env)).any (·.1.isNone)) = false := by rfl)
    (ht : eval (.Call (.Attribute o m apos) [] kws pos) X.env = (do
      let ov ← eval o X.env
      standAt apos.atName
      let (f, first) ← holding [ov] (getMethod ov m pl)
      callWith pos f first (backTo pos (starEach [] X.env)) (backToKw pos (keywordEach kws X.env))) := by rfl) : PE X (.Call (.Attribute o m apos) [] kws pos) (tMethK C m ks.length sp E ta tk) := by
  constructor
  intro pins s σ H Q I h
  refine PySem.W.methodCall_KW (pl := pl) (thn (he.run pins s σ H _ I h) ?_) ht
  rintro u s1 ⟨x, H1, I1, rx, a, dx, fs, rfl, ea, l, q⟩
  obtain rfl : u = Value.ref a := rx
  refine getmeth_ok I1 ea c hm l (PySem.W.callWith_KW0 (first := [.ref a]) (h₀ := X.base) I1.ok.mod.kin hm.kp hall ?_ hpl)
  refine thn (hkw.run pos pins s1 σ H1 _ I1 q) ?_
  rintro ws s2 ⟨zs, H2, I2, rz, hz, q2⟩
  refine ⟨I2.kIn, ?_⟩
  rw [hks]
  exact wpAny_call (run_kw (us := [.ref a]) (vs := [.ref a]) F hr hb hx I2 (.cons rfl .nil) rz hz q2)
/-- C.m(k = v, ..), m a static method -/
def tSMethK (C : Addr) (nk : Nat) (sp : Sp) (E : XK) (ta : TE) (tk : TA) : TE := fun σ H Q => ta σ H fun x H1 => x = .ref C ∧ tk σ H1 fun zs H2 => zs.length = nk ∧ sp zs H2 Q E
theorem pe_smethK0 (he : PE X o ta) (r : ClX.CRead X.K C mc) (c : CStat X.K C mc m p g) (F : FnOk X.prog X.w X.K X.mg X.base CX k g fd ps sp) (hr : Room k X.A) (hb : KBinds X.K fd ps ks (gK 0 ks.length) (gK 0 ks.length)) (hx : Passes CX X E) (hkw : PK X kws tk)
    (hall : (backToKw pos (keywordEach kws X.env)).all (·.1.isSome) = true := by rfl) (hks : (backToKw pos (keywordEach kws X.env)).filterMap (·.1) = ks := by rfl)
    (hpl : ((backTo pos (starEach [] X.env)).any (·.1) || (backToKw pos (keywordEach kws X.env)).any (·.1.isNone)) = false := by rfl)
    (ht : eval (.Call (.Attribute o m apos) [] kws pos) X.env = (do
      let ov ← eval o X.env
      standAt apos.atName
      let (f, first) ← holding [ov] (getMethod ov m pl)
      callWith pos f first (backTo pos (starEach [] X.env)) (backToKw pos (keywordEach kws X.env))) := by rfl) : PE X (.Call (.Attribute o m apos) [] kws pos) (tSMethK C ks.length sp E ta tk) := by
  constructor
  intro pins s σ H Q I h
  refine PySem.W.methodCall_KW (pl := pl) (thn (he.run pins s σ H _ I h) ?_) ht
  rintro u s1 ⟨x, H1, I1, rx, rfl, q⟩
  obtain rfl : u = Value.ref C := rx
  obtain ⟨rest, hp⟩ := c.rc
  refine PySem.W.method_cls I1.kIn r.ga (PySem.W.cls_bind I1.kIn r.rd c.at_ (wpAny_call (PySem.W.sm_get (s := { s1 with toks := s1.toks + 1 }) I1.kIn hp (PySem.W.handed_on rfl ?_))))
  have I2 := I1.tok (s1.toks + 1)
  refine PySem.W.callWith_KW0 (first := []) (h₀ := X.base) I2.ok.mod.kin c.kp hall ?_ hpl
  refine thn (hkw.run pos pins _ σ H1 _ I2 q) ?_
  rintro ws s2 ⟨zs, H2, I3, rz, hz, q2⟩
  refine ⟨I3.kIn, ?_⟩
  rw [hks]
  exact wpAny_call (run_kw (us := []) (vs := []) F hr hb hx I3 .nil rz hz q2)
/-- C.m(k = v, ..), m a class method -/
def tCMethK (C : Addr) (nk : Nat) (sp : Sp) (E : XK) (ta : TE) (tk : TA) : TE := fun σ H Q => ta σ H fun x H1 => x = .ref C ∧ tk σ H1 fun zs H2 => zs.length = nk ∧ sp (.ref C :: zs) H2 Q E
theorem pe_cmethK0 (he : PE X o ta) (r : ClX.CRead X.K C mc) (c : ClX.CMet X.K C mc m p g) (F : FnOk X.prog X.w X.K X.mg X.base CX k g fd ps sp) (hr : Room k X.A) (hb : KBinds X.K fd ps ks (gK 1 ks.length) (gK 1 ks.length)) (hx : Passes CX X E) (hkw : PK X kws tk)
    (hall : (backToKw pos (keywordEach kws X.env)).all (·.1.isSome) = true := by rfl) (hks : (backToKw pos (keywordEach kws X.env)).filterMap (·.1) = ks := by rfl)
    (hpl : ((backTo pos (starEach [] X.env)).any (·.1) || (backToKw pos (keywordEach kws X.env)).any (·.1.isNone)) = false := by rfl)
    (ht : eval (.Call (.Attribute o m apos) [] kws pos) X.env = (do
      let ov ← eval o X.env
      standAt apos.atName
      let (f, first) ← holding [ov] (getMethod ov m pl)
      callWith pos f first (backTo pos (starEach [] X.env)) (backToKw pos (keywordEach kws X.env))) := by rfl) : PE X (.Call (.Attribute o m apos) [] kws pos) (tCMethK C ks.length sp E ta tk) := by
  constructor
  intro pins s σ H Q I h
  refine PySem.W.methodCall_KW (pl := pl) (thn (he.run pins s σ H _ I h) ?_) ht
  rintro u s1 ⟨x, H1, I1, rx, rfl, q⟩
  obtain rfl : u = Value.ref C := rx
  refine ClX.getmethcm_ok I1 r c fun s2 I2 => ?_
  refine PySem.W.callWith_of hpl (PySem.W.keeps_M (self := .ref C) (q := s1.heap.objs.size) c.fi) (evalArgs_kw2_nil hall ?_)
  refine thn (hkw.run pos _ s2 σ H1 _ I2 q) ?_
  rintro ws s3 ⟨zs, H2, I3, rz, hz, q2⟩
  refine ⟨⟨ClX.pin_at I3, I3.kIn⟩, ?_⟩
  rw [hks]
  have z := wpAny_call (PySem.W.method_call (ClX.pin_at I3) (run_kw (us := [.ref C]) (vs := [.ref C]) F hr hb hx I3 (.cons rfl .nil) rz hz q2))
  exact thn z fun _ _ y => ClX.unpinE y
end
section
variable {σ : L2.St} {H : Hp} {Q : VK} {C : Addr} {m : Str} {nk : Nat} {sp : Sp} {E : XK} {ta : TE} {tk : TA}
theorem c_methK (h : ta σ H fun x H1 => ∃ a dx fs, x = .ref a ∧ H1 a = some (.ins C dx fs) ∧ fs.lookup m = none ∧ tk σ H1 fun zs H2 => zs.length = nk ∧ sp (.ref a :: zs) H2 Q E) : tMethK C m nk sp E ta tk σ H Q := h
theorem c_smethK (h : ta σ H fun x H1 => x = .ref C ∧ tk σ H1 fun zs H2 => zs.length = nk ∧ sp zs H2 Q E) : tSMethK C nk sp E ta tk σ H Q := h
theorem c_cmethK (h : ta σ H fun x H1 => x = .ref C ∧ tk σ H1 fun zs H2 => zs.length = nk ∧ sp (.ref C :: zs) H2 Q E) : tCMethK C nk sp E ta tk σ H Q := h
end
/-! ### len, repr, in, truth of a class's own -/
structure OwnM (K : PySem.W.Frag) (C : Addr) (m : Str) (f : Addr) : Prop where
  at_ : PySem.W.findIn K (.ref C) m = some (some (.ref f))
  fn : PySem.W.isFn K (.ref f) = true
section
variable {X : Cx} {CX : CXT} {n : Nat} {C f : Addr} {fd : FuncData} {ps : List Str} {sp : Sp} {E : XK}
def rLenO (C : Addr) (sp : Sp) (E : XK) : List V → Hp → VK → Prop := fun xs H Q => ∃ a dx fs, xs = [.ref a] ∧ H a = some (.ins C dx fs) ∧ sp [.ref a] H (fun z H' => ∃ r : Nat, z = .int (r : Int) ∧ r ≤ 1000000 ∧ Q (.int (r : Int)) H') E
theorem callLenO (W : OwnM X.K C "__len__" f) (F : FnOk X.prog X.w X.K X.mg X.base CX n f fd ps sp) (hr : Room (n + 1) X.A) (hb : Binds X.K fd ps []) (hx : Passes CX X E) : CallR X (.builtin "len") (rLenO C sp E) := by
  intro pins s σ H xs us Q I r h
  obtain ⟨a, dx, fs, rfl, ha, q⟩ := h
  obtain ⟨u, rfl, ru⟩ := vals1 r
  cases ru
  obtain ⟨mA, J, _⟩ := ins_get I.hok ha
  obtain ⟨od, J, _⟩ := J.look
  obtain ⟨m, hF⟩ := I.fr
  refine PySem.W.len_K hF I.ok.mod.kin J W.at_ W.fn (wpAny_mono (own_call1 F hb hx I hr.in1 rfl q) (fun w s' z => ?_) fun _ _ z => z)
  obtain ⟨v, H', I', rv, r, rfl, hl, qk⟩ := z
  obtain ⟨t, rfl⟩ := rv
  exact ⟨⟨by omega, by omega⟩, .int r, H', I'.tok _, ⟨_, rfl⟩, qk⟩
def rReprO (C : Addr) (sp : Sp) (E : XK) : List V → Hp → VK → Prop := fun xs H Q => ∃ a dx fs, xs = [.ref a] ∧ H a = some (.ins C dx fs) ∧ sp [.ref a] H (fun z H' => ∃ r, z = .str r ∧ Q (.str r) H') E
theorem callReprO (W : OwnM X.K C "__repr__" f) (F : FnOk X.prog X.w X.K X.mg X.base CX n f fd ps sp) (hr : Room (n + 1) X.A) (hb : Binds X.K fd ps []) (hx : Passes CX X E) : CallR X (.builtin "repr") (rReprO C sp E) := by
  intro pins s σ H xs us Q I r h
  obtain ⟨a, dx, fs, rfl, ha, q⟩ := h
  obtain ⟨u, rfl, ru⟩ := vals1 r
  cases ru
  obtain ⟨mA, J, _⟩ := ins_get I.hok ha
  obtain ⟨od, J, _⟩ := J.look
  obtain ⟨m, hF⟩ := I.fr
  have h2 : Room n X.A.in1 := hr.in1
  refine PySem.W.repr_K h2.units0 hF I.ok.mod.kin J W.at_ W.fn (wpAny_mono (own_call1 F hb hx I h2 rfl q) (fun w s' z => ?_) fun _ _ z => z)
  obtain ⟨v, H', I', rv, r, rfl, qk⟩ := z
  obtain ⟨t, rfl⟩ := rv
  exact ⟨.str r, H', I', ⟨t, rfl⟩, qk⟩
end
/-! ### f-strings -/
section
variable {σ : L2.St} {H : Hp} {Q : VK} {te : TE} {R : Str → Hp → Prop} {ts : List TE} {acc : Str}
def tJsE (ts : List TE) : TE := fun σ H Q => tJs ts Str.empty σ H fun out H1 => Q (.str out) H1
theorem peJs {X : Cx} {v1 v2 : Expr} {rest : List Expr} {pos : Pos} (h : PJ X (v1 :: v2 :: rest) ts) : PE X (.JoinedStr (v1 :: v2 :: rest) pos) (tJsE ts) := pe_joined h
def rFmt (x : V) (H : Hp) (Q : VK) : Prop := (∃ y : Str, x = .str y ∧ y.length ≤ sizeLine ∧ Q (.str y) H) ∨ ∃ i : Int, x = .int i ∧ i.natAbs.log2 < 1920 ∧ Q (.str (toString i)) H
theorem c_fmt (h : te σ H fun x H1 => rFmt x H1 Q) : tFmt te σ H Q := h
theorem c_fmtS {y : Str} (hy : y.length ≤ 1000000) (h : Q (.str y) H) : rFmt (.str y) H Q := .inl ⟨y, rfl, Nat.le_trans hy (by decide), h⟩
theorem c_fmtI {i : Int} (hi : i.natAbs.log2 < 1920) (h : Q (.str (toString i)) H) : rFmt (.int i) H Q := .inr ⟨i, rfl, hi, h⟩
theorem c_jsE (h : tJs ts Str.empty σ H fun out H1 => Q (.str out) H1) : tJsE ts σ H Q := h
def rJs (ts : List TE) (acc : Str) (σ : L2.St) (x : V) (H : Hp) (R : Str → Hp → Prop) : Prop := ∃ y : Str, x = .str y ∧ (acc ++ y).length ≤ sizeLine ∧ tJs ts (acc ++ y) σ H R
theorem c_js (h : te σ H fun x H1 => rJs ts acc σ x H1 R) : tJs (te :: ts) acc σ H R := h
theorem c_js0 (h : R acc H) : tJs [] acc σ H R := h
theorem c_rjs {y : Str} (hy : (acc ++ y).length ≤ 10000000) (h : tJs ts (acc ++ y) σ H R) : rJs ts acc σ (.str y) H R := ⟨y, rfl, Nat.le_trans hy (by decide), h⟩
end
end Und
/-! in, == with any value, truth of a class's own -/
namespace Und
open PySem PySem.Spec PyProof.Rows L2 Builtin
section
variable {X : Cx} {CX : CXT} {n : Nat} {C f : Addr} {fd : FuncData} {ps : List Str} {sp : Sp} {E : XK}
theorem own_call2 {A : Around} {pins : List (Addr × Obj)} {σ : L2.St} {H : Hp} {s : Shared} {a : Addr} {y : V} {v : Value} {Q : VK} (F : FnOk X.prog X.w X.K X.mg X.base CX n f fd ps sp) (hb : Binds X.K fd ps []) (hx : Passes CX X E) (I : Inv X pins σ H s) (hr : Room n A) (hf : A.frames = X.A.frames)
    (ry : RelV y v) (h : sp [.ref a, y] H Q E) : wpAny (model X.prog X.w) A (call (.ref f) [.ref a, v]) (EP X pins σ Q) X.xe s := by
  have e0 : Env0 X.prog X.w X.K X.mg X.base A X.stack s H := by
    have e := I.env0
    exact ⟨by rw [hf]; exact e.frames, e.mod, e.bs, e.bsz, e.funs, e.frf, e.hok, e.bare⟩
  have hl := F.len _ _ _ _ h
  have r2 : Vals [V.ref a, y] [Value.ref a, v] := .cons rfl (.cons ry .nil)
  refine wpAny_call (codeAny_mono (F.run A X.stack s H ⟨[.ref a, v], []⟩ [.ref a, v] [.ref a, y] Q E hr e0 (by
    have z := hb s [.ref a, v] I.kIn (by simpa using hl)
    simpa using z) r2 h) fun r s' hq => ?_)
  cases r with
  | error e => exact hx pins σ H s e s' I hq
  | ok fl =>
    cases fl with
    | ret w => exact I.after hq
    | next => exact False.elim hq
    | brk => exact False.elim hq
    | cont => exact False.elim hq
/-! ### x in obj -/
def rInO (C : Addr) (sp : Sp) (E : XK) (neg : Bool) : R2 := fun x y H Q => ∃ b dy gs, y = .ref b ∧ H b = some (.ins C dy gs) ∧ sp [.ref b, x] H (fun z H' => ∃ k, z = .bl k ∧ Q (.bl (if neg then !k else k)) H') E
theorem opInO (W : OwnM X.K C "__contains__" f) (F : FnOk X.prog X.w X.K X.mg X.base CX n f fd ps sp) (hr : Room n X.A) (hb : Binds X.K fd ps []) (hx : Passes CX X E) : OpR X (compareOp .In) (rInO C sp E false) := by
  intro pins s σ H x y v u Q I rx ry h
  obtain ⟨b, dy, gs, rfl, hb', q⟩ := h
  cases ry
  obtain ⟨mA, J, _⟩ := ins_get I.hok hb'
  obtain ⟨od, J, _⟩ := J.look
  obtain ⟨m, hF⟩ := I.fr
  refine PySem.W.in_K hF I.ok.mod.kin J W.at_ W.fn ?_
  refine wpAny_mono (own_call2 F hb hx I hr rfl rx q) (fun w s' z => ?_) fun _ _ z => z
  obtain ⟨v, H', I', rv, k, rfl, qk⟩ := z
  cases rv
  exact wpAny_truthy_bool ⟨.bl k, H', I', rfl, qk⟩
theorem opNotInO (W : OwnM X.K C "__contains__" f) (F : FnOk X.prog X.w X.K X.mg X.base CX n f fd ps sp) (hr : Room n X.A) (hb : Binds X.K fd ps []) (hx : Passes CX X E) : OpR X (compareOp .NotIn) (rInO C sp E true) := by
  intro pins s σ H x y v u Q I rx ry h
  obtain ⟨b, dy, gs, rfl, hb', q⟩ := h
  cases ry
  obtain ⟨mA, J, _⟩ := ins_get I.hok hb'
  obtain ⟨od, J, _⟩ := J.look
  obtain ⟨m, hF⟩ := I.fr
  refine PySem.W.notIn_K hF I.ok.mod.kin J W.at_ W.fn ?_
  refine wpAny_mono (own_call2 F hb hx I hr rfl rx q) (fun w s' z => ?_) fun _ _ z => z
  obtain ⟨v, H', I', rv, k, rfl, qk⟩ := z
  cases rv
  exact wpAny_truthy_bool ⟨.bl (!k), H', I', rfl, qk⟩
theorem c_inO {neg : Bool} {H : Hp} {Q : VK} {x : V} {b dy : Addr} {gs : List (Str × V)} (h : H b = some (.ins C dy gs)) (q : sp [.ref b, x] H (fun z H' => ∃ k, z = .bl k ∧ Q (.bl (if neg then !k else k)) H') E) : rInO C sp E neg x (.ref b) H Q := ⟨b, dy, gs, rfl, h, q⟩
/-! ### obj == any value -/
theorem notFirst_of {K : PySem.W.Frag} {t : Value} (h : PySem.W.kitOne K t (.ref C) = some false) : PySem.W.notFirst K C t = true := by
  unfold PySem.W.kitOne at h
  by_cases e : (t == Value.ref C) = true
  · rw [if_pos e] at h
    cases h
  · rw [if_neg e] at h
    simp only [PySem.W.kitCls] at h
    split at h
    · unfold PySem.W.notFirst
      rw [h]
      simp
    · cases h
def rOwnX (K : PySem.W.Frag) (C : Addr) (sp : Sp) (E : XK) (neg : Bool) : R2 := fun x y H Q => ∃ a dx fs t, x = .ref a ∧ H a = some (.ins C dx fs) ∧ TyX K H y t ∧ PySem.W.kitOne K t (.ref C) = some false ∧ sp [.ref a, y] H (fun z H' => ∃ k, z = .bl k ∧ Q (.bl (if neg then !k else k)) H') E
theorem opEqOwnX {K : PySem.W.Frag} (W : EqOwn X.K C f) (F : FnOk X.prog X.w X.K X.mg X.base CX n f fd ps sp) (hr : Room n X.A) (hb : Binds X.K fd ps []) (hx : Passes CX X E) (hK : X.K = K := by rfl) : OpR X (compareOp .Eq) (rOwnX K C sp E false) := by
  subst hK
  intro pins s σ H x y v u Q I rx ry h
  obtain ⟨a, dx, fs, t, rfl, ha, ty, kt, q⟩ := h
  cases rx
  obtain ⟨mA, J, _⟩ := ins_get I.hok ha
  obtain ⟨od, J, _⟩ := J.look
  obtain ⟨m, hF⟩ := I.fr
  obtain ⟨P, Z, p, _⟩ := kit_of I ry ty
  show wpAny (model X.prog X.w) X.A (richCompare .Eq (.ref a) u) (EP X pins σ Q) X.xe s
  refine PySem.W.cmp_K (op := .Eq) (tb := t) hr.units0 hF I.ok.mod.kin J (Z.ty _ _ I.kIn p) (notFirst_of kt) W.eq W.fn ?_
  refine wpAny_mono (own_call2 F hb hx I hr rfl ry q) (fun w s' z => ?_) fun _ _ z => z
  obtain ⟨v, H', I', rv, k, rfl, qk⟩ := z
  cases rv
  exact ⟨.bl k, H', I', rfl, qk⟩
end
section
variable {prog : Program} {w : World} {A : Around} {E : Value → Shared → Prop} {s : Shared} {K : PySem.W.Frag} {x C f : Addr} {ox : Obj} {od : Option Obj} {y tb : Value}
theorem rich_neX (X : K.In s.heap) (I : PySem.W.InstAt s.heap x ox C od) (hb : PySem.W.Looks (model prog w) s.heap (typeOf y) tb) (hn : PySem.W.notFirst K C tb = true) (W : EqOwn K C f) (hu : A.units + 1 < cLine) {Q : Value → Shared → Prop}
    (h : wpAny (model prog w) A.in1 (call (.ref f) [.ref x, y]) (fun v s' => ∃ k, v = .bool k ∧ Q (.bool (!k)) s') E s) : wpAny (model prog w) A (richCompare .NotEq (.ref x) y) Q E s := by
  have one : wpAny (model prog w) A (tryCompare (.ref x) "__ne__" y) (fun r s' => ∃ v, r = some v ∧ Q v s') E s := by
    unfold tryCompare
    refine wpAny_bind (bound_ne X I W (wpAny_call (codeAny_call_builtin F.cmp_object.ne.plain F.cmpEntry_ne (PySem.W.check_slot F.cmpKind_ne F.cmpSplit_ne (I.type.andThen (PySem.W.looks_mroIn X W.ob)) (F.cmpArgs_ne _ _)
      (entry_ne (A := A.in1) X I W hu (wpAny_mono h (fun v s' z => ?_) fun _ _ z => z))))))
    obtain ⟨k, rfl, q⟩ := z
    exact ⟨k, rfl, wpAny_pure ⟨_, rfl, q⟩⟩
  unfold richCompare
  simp only [oneThing_ref]
  refine wpAny_holding (wpAny_bind (wpAny_cRoomFor (Nat.lt_of_succ_lt hu) ?_))
  rw [cmpInfo_NotEq]
  dsimp only
  refine wpAny_bind (I.type.here (wpAny_bind (hb.here ?_)))
  split
  · rename_i q
    have e : PySem.W.subIn K tb (.ref C) = some false := by
      rcases Bool.or_eq_true_iff.mp hn with e | e
      · rw [beq_iff_eq.mp e] at q; simp at q
      · exact beq_iff_eq.mp e
    refine wpAny_bind ((PySem.W.looks_subIn X e).here ?_)
    simp only [Bool.false_eq_true, if_false]
    refine wpAny_bind (wpAny_mono one (fun r s' z => ?_) fun _ _ e => e)
    obtain ⟨v, rfl, hq⟩ := z
    exact wpAny_pure hq
  · refine wpAny_bind (wpAny_pure ?_)
    simp only [Bool.false_eq_true, if_false]
    refine wpAny_bind (wpAny_mono one (fun r s' z => ?_) fun _ _ e => e)
    obtain ⟨v, rfl, hq⟩ := z
    exact wpAny_pure hq
end
section
variable {X : Cx} {CX : CXT} {n : Nat} {C f : Addr} {fd : FuncData} {ps : List Str} {sp : Sp} {E : XK}
theorem opNeOwnX {K : PySem.W.Frag} (W : EqOwn X.K C f) (F : FnOk X.prog X.w X.K X.mg X.base CX n f fd ps sp) (hr : Room (n + 1) X.A) (hb : Binds X.K fd ps []) (hx : Passes CX X E) (hK : X.K = K := by rfl) : OpR X (compareOp .NotEq) (rOwnX K C sp E true) := by
  subst hK
  intro pins s σ H x y v u Q I rx ry h
  obtain ⟨a, dx, fs, t, rfl, ha, ty, kt, q⟩ := h
  cases rx
  obtain ⟨mA, J, _⟩ := ins_get I.hok ha
  obtain ⟨od, J, _⟩ := J.look
  obtain ⟨P, Z, p, _⟩ := kit_of I ry ty
  have hu := hr.un
  show wpAny (model X.prog X.w) X.A (richCompare .NotEq (.ref a) u) (EP X pins σ Q) X.xe s
  refine rich_neX I.kIn J (Z.ty _ _ I.kIn p) (notFirst_of kt) W (by omega) ?_
  refine wpAny_mono (own_call2 F hb hx I hr.in1 rfl ry q) (fun w s' z => ?_) fun _ _ z => z
  obtain ⟨v, H', I', rv, k, rfl, qk⟩ := z
  cases rv
  exact ⟨k, rfl, .bl (!k), H', I', rfl, qk⟩
end
/-! ### bool(obj) by its len -/
section
variable {prog : Program} {w : World} {A : Around} {E : Value → Shared → Prop} {s : Shared} {K : PySem.W.Frag} {x C L f : Addr} {h₀ : Heap} {m : Str → Option Value} {ox : Obj} {od : Option Obj}
theorem truthy_KL {Q : Bool → Shared → Prop} (F : Fr h₀ L s.heap m) (X₀ : K.In h₀) (I : PySem.W.InstAt s.heap x ox C od) (hs : PySem.W.findIn K (.ref C) "__bool__" = some none) (hl : PySem.W.findIn K (.ref C) "__len__" = some (some (.ref f))) (hf : PySem.W.isFn K (.ref f) = true)
    (h : wpAny (model prog w) A.in1 (call (.ref f) [.ref x]) (PySem.W.LenBack fun v s' => ∃ i t, v = .int i t ∧ Q (i != 0) s') E s) : wpAny (model prog w) A (truthy (.ref x)) Q E s := by
  have X := X₀.keeps F.keep
  unfold truthy
  refine wpAny_bind (m := callSpecial? (.ref x) (Str.ofString "__bool__")) (wpAny_bind (wpAny_bind (I.type.here ((PySem.W.looks_findIn X hs).here (wpAny_pure ?_)))))
  refine wpAny_bind (wpAny_bind (I.type.here ((PySem.W.looks_findIn X hl).here ?_)))
  show wpAny (model prog w) A (if (some (Value.ref f)).isNone = true then _ else _) _ _ _
  rw [if_neg (by simp)]
  refine wpAny_bind (wpAny_runValue (codeAny_builtin entry_len ?_))
  unfold Builtin.«len»
  refine wpAny_bind (m := oneArg "len" _) (wpAny_pure ?_)
  refine wpAny_bind (m := callSpecial? (.ref x) (Str.ofString "__len__")) (PySem.W.special_fn X I hl (beq_iff_eq.mp hf) (wpAny_mono h (fun r s' hr => ?_) fun _ _ y => y))
  cases r <;> first | exact hr.elim | skip
  rename_i n u
  obtain ⟨⟨h0, h1⟩, i, t, e, hq⟩ := hr
  cases e
  refine wpAny_bind (wpAny_holding (wpAny_pure ?_))
  refine wpAny_bind (wpAny_letGo ?_)
  show wpAny _ _ (if n < 0 then _ else _) _ _ _
  rw [if_neg (by omega)]
  show wpAny _ _ (if n ≥ 2 ^ 63 then _ else _) _ _ _
  rw [if_neg (by omega)]
  exact wpAny_bind (wpAny_mkInt (wpAny_pure (wpAny_pure hq)))
theorem bool_obj : MeetsIn prog w (Builtin.«bool.__new__» ⟨[.type "bool", .ref x], []⟩) (fun A R s => wpAny (model prog w) A.in1 (truthy (.ref x)) (fun b s' => R (.ok (.ret (.bool b))) s') (fun e s' => R (.error e) s') s) :=
  .of_wp fun A R s hs => by
    have f1 := F.conv_sub_bool
    have q1 : ∀ {Q : Bool → Shared → Prop}, (∀ b s', R (.ok (.ret (.bool b))) s' → Q b s') → wpAny (model prog w) A.in1 (truthy (.ref x)) Q (fun e s' => R (.error e) s') s := fun h => wpAny_mono hs h fun _ _ z => z
    unfold Builtin.«bool.__new__»
    repeat (any_goals (first | assumption | (refine wpAny_bind (q1 fun b s' z => ?_)) | wp_step))
    all_goals first | exact ⟨_, rfl, ‹_›⟩ | skip
theorem call_bool_obj {Q : Value → Shared → Prop} (h : wpAny (model prog w) A.in1.in1 (truthy (.ref x)) (fun b s' => Q (.bool b) s') E s) : wpAny (model prog w) A (call (.type "bool") [.ref x]) Q E s :=
  callType_newIn F.called_bool F.newNe_bool (F.typeCall_bool_1 _) (F.newCall_bool_1 _) (fun obj => F.args_object_init_2 obj _) F.entry_bool_new bool_obj (wpAny_mono h (fun b s' z => ⟨rfl, z⟩) fun _ _ z => z)
end
section
variable {X : Cx} {CX : CXT} {n : Nat} {C f : Addr} {fd : FuncData} {ps : List Str} {sp : Sp} {E : XK}
def rBoolO (C : Addr) (sp : Sp) (E : XK) : List V → Hp → VK → Prop := fun xs H Q => ∃ a dx fs, xs = [.ref a] ∧ H a = some (.ins C dx fs) ∧ sp [.ref a] H (fun z H' => ∃ r : Nat, z = .int (r : Int) ∧ r ≤ 1000000 ∧ Q (.bl (decide (0 < r))) H') E
theorem ne0 (r : Nat) : ((r : Int) != 0) = decide (0 < r) := by
  cases r with
  | zero => rfl
  | succ r =>
    rw [decide_eq_true (Nat.succ_pos r)]
    exact bne_iff_ne.mpr (by omega)
theorem callBoolO (nb : NoAttr X.K C "__bool__") (W : OwnM X.K C "__len__" f) (F : FnOk X.prog X.w X.K X.mg X.base CX n f fd ps sp) (hr : Room (n + 3) X.A) (hb : Binds X.K fd ps []) (hx : Passes CX X E) : CallR X (.type "bool") (rBoolO C sp E) := by
  intro pins s σ H xs us Q I r h
  obtain ⟨a, dx, fs, rfl, ha, q⟩ := h
  obtain ⟨u, rfl, ru⟩ := vals1 r
  cases ru
  obtain ⟨mA, J, _⟩ := ins_get I.hok ha
  obtain ⟨od, J, _⟩ := J.look
  obtain ⟨m, hF⟩ := I.fr
  refine call_bool_obj (truthy_KL hF I.ok.mod.kin J nb W.at_ W.fn (wpAny_mono (own_call1 F hb hx I hr.in1.in1.in1 rfl q) (fun w s' z => ?_) fun _ _ z => z))
  obtain ⟨v, H', I', rv, r, rfl, hl, qk⟩ := z
  obtain ⟨t, rfl⟩ := rv
  refine ⟨⟨by omega, by omega⟩, _, _, rfl, ?_⟩
  rw [ne0]
  exact ⟨.bl _, H', I'.tok _, rfl, qk⟩
/-! ### making by a local that holds the class -/
def tMakeL (i : Nat) (C : Addr) (sp : Sp) (dvs : List V) (E : XK) (t : TA) : TE := fun σ H Q => ∃ y, σ[i]? = some (some y) ∧ y = .ref C ∧ t σ H fun vs H1 => rMk C sp E (vs ++ dvs) H1 Q
theorem c_makeL {i : Nat} {dvs : List V} {t : TA} {σ : L2.St} {H : Hp} {Q : VK} (e : σ[i]? = some (some (.ref C))) (h : t σ H fun vs H1 => rMk C sp E (vs ++ dvs) H1 Q) : tMakeL i C sp dvs E t σ H Q := ⟨_, e, rfl, h⟩
theorem pe_makeL {i : Nat} {x : Str} {e : Expr} {es : List Expr} {t : TA} {p pos : Pos} {ds : List Value} {dvs : List V} (M : Mk X.K C f) (F : FnOk X.prog X.w X.K X.mg X.base CX n f fd ps sp) (hr : Room (n + 1) X.A) (hN : X.N[i]? = some x) (hv : Vis X.env.scope x) (hb : Binds X.K fd ps ds) (hd : Vals dvs ds) (hx : Passes CX X E)
    (ha : PA X (e :: es) t) (hdb : (x == ("__debug__" : Str)) = false := by decide) (hcd : (x == ("__classdict__" : Str)) = false := by decide) (he : starEach (e :: es) X.env = (false, eval e X.env) :: starEach es X.env := by rfl) (hpl : (backTo pos (starEach es X.env)).any (·.1) = false := by rfl) :
    PE X (.Call (.Name x p) (e :: es) [] pos) (tMakeL i C sp dvs E t) := by
  refine ⟨fun pins s σ H Q I h => ?_⟩
  obtain ⟨y, hs, ey, ht⟩ := h
  subst ey
  refine wpAny_Call_Name_kw (thn ((pe_var (pos := p) hN hv hdb hcd).run pins s σ H (fun v H1 => v = .ref C ∧ H1 = H) I ⟨.ref C, hs, rfl, rfl⟩) fun u s1 ⟨v, H1, I1, r1, q1⟩ => ?_)
  obtain ⟨rfl, rfl⟩ := q1
  cases r1
  exact PySem.W.callWith_K (h₀ := X.base) I1.ok.mod.kin M.kp (thn (ha.run pos pins s1 σ _ _ I1 ht) fun us s2 ⟨vs, H2, I2, r, q⟩ => ⟨I2.kIn, run_make M F hr hb hd hx I2 r q⟩) he hpl
end
/-! ### what stays of a value's type -/
theorem tyx_mono {K : PySem.W.Frag} {H H' : Hp} {x : V} {t : Value} (s : Same H H') (h : TyX K H x t) : TyX K H' x t := by
  cases h with
  | base b =>
    cases b with
    | non => exact .base .non
    | bl y => exact .base (.bl y)
    | int y => exact .base (.int y)
    | str y => exact .base (.str y)
    | flt y => exact .base (.flt y)
    | lst e => exact .base (.lst (s _ _ e))
    | frz e => exact .base (.frz (s _ _ e))
    | tup e => exact .base (.tup (s _ _ e))
    | dK e => exact .base (.dK (s _ _ e))
    | dT e => exact .base (.dT (s _ _ e))
    | ins e a b c d f => exact .base (.ins (s _ _ e) a b c d f)
  | byt y => exact .byt y
  | set e => exact .set (s _ _ e)
  | kList a b => exact .kList a b
  | kTuple a b => exact .kTuple a b
  | kDict a b => exact .kDict a b
  | fTuple e => exact .fTuple (s _ _ e)
  | fDict e => exact .fDict (s _ _ e)
/-- isinstance(x, T): x of a kind that is none of T's -/
theorem c_isiN {K : PySem.W.Frag} {H : Hp} {Q : VK} {x : V} {t : Value} {b : String} (ty : TyX K H x t) (kt : PySem.W.kitOne K t (.type b) = some false) (h : Q (.bl false) H) : rIsi K [x, .ty b] H Q := ⟨x, .ty b, t, .type b, false, rfl, .ty b, ty, kt, h⟩
theorem c_isiNC {K : PySem.W.Frag} {H : Hp} {Q : VK} {x : V} {t : Value} {C : Addr} (ty : TyX K H x t) (kt : PySem.W.kitOne K t (.ref C) = some false) (h : Q (.bl false) H) : rIsi K [x, .ref C] H Q := ⟨x, .ref C, t, .ref C, false, rfl, .own C, ty, kt, h⟩
/-- no two kinds: a name is no text that is none -/
theorem inV_names {x : Str} {ns : List Str} (h : ∀ z ∈ ns, IsName z) (hx : ¬ IsName x) : inV (.str x) (ns.map V.str) = false := by
  cases e : inV (.str x) (ns.map V.str) with
  | false => rfl
  | true =>
    unfold inV at e
    simp [eqV] at e
    exact absurd (h x e) hx
end Und
/-! errors as values: made by position and by name, asked for their class, their field read -/
namespace Und
open PySem PySem.Spec PyProof.Rows L2 PySem.HandSPX Builtin Builtin.ObjectAttr
/-! ### a call of such a class with a keyword -/
section
variable {M : Model} {prog : Program} {w : World} {A : Around} {E : Value → Shared → Prop} {R : Result → Shared → Prop} {h : Heap} {g : Array GenState} {d : Drawn} {t : Nat} {os : OsState}
variable {nm q : Str} {C N : Addr} {bs bm bmB : List Value} {hdct : Bool} {sn : List Str} {sub : List Value} {ab : Bool} {col : Option Bool} {dd : Option Addr} {k0 k1 k2 k3 k5 : Option Value} {B newId initId : String}
theorem kw_check (F : ExcBaseFacts B newId initId bmB) (hT : ∀ X : String, bm.contains (.type X) = bmB.contains (.type X)) {kw : List (Str × Value)} {Q : Unit → Shared → Prop}
    (hC : h.get? C = some (excClassObj nm q C N bs bm hdct sn sub ab col dd k0 k1 k2 k3 k5 newId)) (hq : Q () ⟨h, g, d, t, os⟩) : wpAny M A (checkBuiltinCall newId ⟨[.ref C], kw⟩) Q E ⟨h, g, d, t, os⟩ := by
  have hcont : (Value.ref C :: bm).contains (.type B) = true := by rw [List.contains_cons, hT, F.hasB, Bool.or_true]
  have hstar := F.noStar
  simp only [checkBuiltinCall, F.newKind, F.newSplit, F.newRow]
  repeat (first | refine wpAny_loadPart_at hC ?_ | (refine wpAny_isSubtype_exc hC ?_; rw [hcont]) | refine wpAny_staticBase_exc hC ?_ | refine wpAny_madeBy_exc hC ?_ | simp only [bne_self_eq_false, Bool.false_eq_true, if_false] | wp_step)
  exact hq
theorem kw_new (F : ExcBaseFacts B newId initId bmB) (hT : ∀ X : String, bm.contains (.type X) = bmB.contains (.type X)) {kw : List (Str × Value)}
    (hC : h.get? C = some (excClassObj nm q C N bs bm hdct sn sub ab col dd k0 k1 k2 k3 k5 newId))
    (hq : R (.ok (.ret (.ref (h.objs.size + 1)))) ⟨(h.push { cls := .type "tuple", data := .seq ([] : List Value).toArray }).push
      { cls := .ref C, data := .fields #[.ref h.objs.size, .none, .none, .none, .bool false, .none] }, g, d, t, os⟩) :
    codeAny (model prog w) A (.builtin newId ⟨[.ref C], kw⟩) R ⟨h, g, d, t, os⟩ := by
  have hends := F.ends
  have hcB : (Value.ref C :: bm).contains (.type B) = true := by rw [List.contains_cons, hT, F.hasB, Bool.or_true]
  have hcA : (Value.ref C :: bm).contains (.type "AttributeError") = false := by rw [List.contains_cons, hT, F.noAttr]; rfl
  have hcN : (Value.ref C :: bm).contains (.type "NameError") = false := by rw [List.contains_cons, hT, F.noName]; rfl
  refine codeAny_builtinAt F.entry ?_
  unfold Builtin.«BaseException.__new__»
  refine PySem.wpAt_bind ?_
  show PySem.wpAt _ _ _ (stack >>= _) _ _ _
  refine PySem.wpAt_bind (PySem.wpAt_stack fun p below => PySem.wpAt_of_wpAny ?_)
  wp_walk
  refine PySem.wpAt_of_wpAny ?_
  rw [F.owner]
  repeat (first | with_reducible refine wpAny_madeHere_exc F.canon hC ?_ | with_reducible refine wpAny_loadPart_at hC ?_ | (with_reducible refine wpAny_isSubtype_exc hC ?_; first | rw [hcB] | rw [hcA] | rw [hcN]) | wp_step)
  show R _ _
  rw [Heap.size_push]
  exact hq
theorem kw_type (F : ExcBaseFacts B newId initId bmB) (hT : ∀ X : String, bm.contains (.type X) = bmB.contains (.type X)) {kw : List (Str × Value)} {fI : Addr} {Q : Fin → Shared → Prop}
    (hC : h.get? C = some (excClassObj nm q C N bs bm hdct sn sub ab col dd k0 k1 k2 k3 k5 newId))
    (hi : W.Looks (model prog w) h (typeLookup (.ref C) "__init__") (some (.ref fI))) (hb : ∀ self, W.Looks (model prog w) h (bindSpecial (.ref fI) self) (.ref fI, [self]))
    (hq : codeAny (model prog w) A (.call (.ref fI) ⟨[.ref (h.objs.size + 1)], kw⟩)
      (fun r s' => match r with | .ok (.ret v) => v = .none ∧ Q (.done (.ret (.ref (h.objs.size + 1)))) s' | .ok _ => False | .error e => E e s')
      ⟨(h.push (W.kdv_tup [])).push (excO C h.objs.size), g, d, t, os⟩) :
    wpAny (model prog w) A (Builtin.«type.__call__» ⟨[.ref C], kw⟩) Q E ⟨h, g, d, t, os⟩ := by
  repeat (first | with_reducible refine wpAny_loadPart_at hC ?_ | with_reducible refine wpAny_madeBy_exc hC ?_ | wp_step)
  refine codeAny_call_builtin_code (Code.quiet_builtin _ F.quiet) (kw_check F hT hC ?_)
  refine kw_new F hT hC ?_
  show wpAny _ _ _ _ _ _
  have k : ∀ b o, h.get? b = some o → ((h.push (W.kdv_tup [])).push (excO C h.objs.size)).get? b = some o := fun b o e => Heap.get?_push_of_some _ (Heap.get?_push_of_some _ e)
  have hC₁ := k _ _ hC
  have hget : ((h.push (W.kdv_tup [])).push (excO C h.objs.size)).get? (h.objs.size + 1) = some (excO C h.objs.size) := by heap_get
  have hcC : (Value.ref C :: bm).contains (.ref C) = true := by simp
  have i1 := hi.keeps k
  have b1 := (hb (.ref (h.objs.size + 1))).keeps k
  unfold isInstance
  repeat (first | with_reducible refine wpAny_loadPart_at hget ?_ | (with_reducible refine wpAny_isSubtype_exc hC₁ ?_; rw [hcC]) | wp_step)
  show wpAny _ _ (typeLookup (.ref C) _) _ _ _
  refine i1.at ?_
  refine wpAny_holding (wpAny_bind (b1.at ?_))
  refine wpAny_bind (wpAny_call (codeAny_mono hq fun r s' z => ?_))
  rcases r with e | (v | _ | _ | _) <;> first | exact z | exact z.elim | skip
  obtain ⟨rfl, z⟩ := z
  first
    | exact wpAny_pure (wpAny_pure z)
    | (wp_walk; exact z)
theorem kw_call (F : ExcBaseFacts B newId initId bmB) (hT : ∀ X : String, bm.contains (.type X) = bmB.contains (.type X)) {kw : List (Str × Value)} {fI : Addr}
    (hC : h.get? C = some (excClassObj nm q C N bs bm hdct sn sub ab col dd k0 k1 k2 k3 k5 newId))
    (hi : W.Looks (model prog w) h (typeLookup (.ref C) "__init__") (some (.ref fI))) (hb : ∀ self, W.Looks (model prog w) h (bindSpecial (.ref fI) self) (.ref fI, [self]))
    (hq : codeAny (model prog w) (A.under (.builtin "type.__call__" ⟨[.ref C], kw⟩)) (.call (.ref fI) ⟨[.ref (h.objs.size + 1)], kw⟩) (W.InitBack (h.objs.size + 1) R)
      ⟨(h.push (W.kdv_tup [])).push (excO C h.objs.size), g, d, t, os⟩) :
    codeAny (model prog w) A (.call (.ref C) ⟨[], kw⟩) R ⟨h, g, d, t, os⟩ := by
  have f1 := tc_lookup
  have f2 := tc_bind (.ref C)
  have hTy : (⟨h, g, d, t, os⟩ : Shared).TypeIs (.ref C) "type" := ⟨_, hC, rfl⟩
  refine codeAny_of_tree ?_
  show wpAny _ _ (callAny (.ref C) _) _ _ _
  repeat (any_goals (first | assumption | with_reducible refine wpAny_loadPart_at hC ?_ | wp_step))
  refine ⟨rfl, ?_⟩
  refine codeAny_call_builtin_at (Code.quiet_builtin _ (by decide +kernel)) entry_typeCall (wpAny_check_type_call_sub hC (kw_type F hT hC hi hb ?_))
  refine codeAny_mono hq fun r s' z => ?_
  rcases r with e | (v | _ | _ | _) <;> exact z
end
/-! ### the field is set -/
section
variable {prog : Program} {w : World} {A : Around} {R : Result → Shared → Prop} {hp : Heap} {g : Array GenState} {d : Drawn} {t : Nat} {os : OsState}
theorem osa_gen {K : W.Frag} {name : Str} {tk : Tok} {v : Value} {x C : Addr} {fv : Array Value} {cd : ClassData}
    (X : K.In hp) (hx : hp.get? x = some { cls := .ref C, data := .fields fv }) (hcd : W.clsIn K C = some cd) (ne : cd.mro.isEmpty = false) (hob : cd.mro.contains (.type "object") = true) (pass : refuseLoop (.ref x) "__setattr__" cd.mro = pure ()) (hh : cd.hasDict = true) (ha : W.findIn K (.ref C) name = some none)
    (hq : ∀ h' tk' dx, (∀ b o, b ≠ x → hp.get? b = some o → h'.get? b = some o) → hp.objs.size ≤ dx → dx ≠ x → h'.get? x = some { cls := .ref C, dict := some dx, data := .fields fv } →
      h'.Ns1 dx (fun y => if y = name then some v else none) → R (.ok (.ret .none)) ⟨h', g, d, tk', os⟩) :
    codeAny (model prog w) A (.call (.builtin "object.__setattr__") ⟨[.ref x, .str name tk, v], []⟩) R ⟨hp, g, d, t, os⟩ := by
  have I : W.InstAt hp x { cls := .ref C, data := .fields fv } C none := ⟨hx, rfl, rfl, trivial⟩
  have SF := F.store_object
  have hxs : x ≠ hp.objs.size := Nat.ne_of_lt (Heap.lt_size hx)
  have sub : W.Looks (model prog w) hp (isInstance (.ref x) (.type "object")) true := I.type.andThen (W.looks_mroIn X (by unfold W.mroIn; rw [hcd, Option.bind_some, if_neg (by rw [ne]; decide), hob]))
  refine codeAny_call_builtin SF.slot.plain SF.entry (@W.check_slot (model prog w) _ _ ⟨hp, g, d, t, os⟩ "object.__setattr__" "object" "__setattr__" (.ref x) [.str name tk, v] [] _ SF.kind SF.split sub (SF.args (.ref x) (.str name tk) v) ?_)
  have hmr : W.Looks (model prog w) hp (mroOf (.ref C)) cd.mro := (W.looks_clsIn X hcd).andThen .now
  have L3 : W.Looks (model prog w) hp (storeTaker? none) none := .now
  have hcls : W.Looks (model prog w) hp (classData C) cd := W.looks_clsIn X hcd
  rw [W.osa_eq, refuse_eq]
  refine wpAny_bind (wpAny_bind (I.type.at (wpAny_bind (hmr.at ?_))))
  rw [pass]
  refine wpAny_pure (wpAny_bind (I.type.at (wpAny_bind ((W.looks_findIn X ha).at (wpAny_bind (L3.at ?_))))))
  show wpAny _ _ (storeInOwnDict (.ref x) (.ref C) (.str name tk) name v false) _ _ _
  obtain ⟨nm, bs, mro, ns, qn, hd, sn, sb, ab, col, del⟩ := cd
  dsimp only at hh
  subst hh
  unfold storeInOwnDict ownDictForStores
  repeat (first | with_reducible refine store_in_new ?_ ?_ | with_reducible refine wpAny_loadPart_at hx ?_ | with_reducible refine hcls.at ?_ | wp_step)
  · exact ⟨_, #[], _, (Heap.get?_update_ne _ _ _ _ hxs.symm).trans (Heap.get?_push_at rfl rfl), rfl, fun e he => absurd he (by simp), fun _ => rfl⟩
  · intro h' tk' hn' hs
    have hx₁ : (hp.push { cls := .type "dict", data := .dict #[] }).get? x = some { cls := .ref C, data := .fields fv } := Heap.get?_push_of_some _ hx
    refine hq h' tk' hp.objs.size (fun b o hb ho => ?_) (Nat.le_refl _) hxs.symm ?_ hn'
    · exact (hs.2 b (Nat.ne_of_lt (Heap.lt_size ho))).trans ((Heap.get?_update_ne _ _ _ _ hb).trans (Heap.get?_push_of_some _ ho))
    · exact (hs.2 x hxs).trans (Heap.get?_update_self _ hx₁ rfl)
end
/-! ### what the written part says of an error's class -/
/-- a built-in family of errors -/
structure Fam (B newId initId : String) (bmB : List Value) : Prop where
  F : ExcBaseFacts B newId initId bmB
  pass : ∀ self, refuseLoop self "__setattr__" bmB = pure ()
  obj : bmB.contains (.type "object") = true
theorem famV : Fam "ValueError" "ValueError.__new__" "ValueError.__init__" [.type "ValueError", .type "Exception", .type "BaseException", .type "object"] := ⟨F.excBase_ValueError, fun self => F.store_ValueError.passes self, by decide +kernel⟩
theorem famA : Fam "ArithmeticError" "ArithmeticError.__new__" "ArithmeticError.__init__" [.type "ArithmeticError", .type "Exception", .type "BaseException", .type "object"] := ⟨F.excBase_ArithmeticError, fun self => by kernel_rfl, by decide +kernel⟩
theorem famL : Fam "LookupError" "LookupError.__new__" "LookupError.__init__" [.type "LookupError", .type "Exception", .type "BaseException", .type "object"] := ⟨F.excBase_LookupError, fun self => by kernel_rfl, by decide +kernel⟩
structure ErrC (K : PySem.W.Frag) (C : Addr) (refs : List Addr) (newId : String) (bmB : List Value) : Prop where
  cls : ∃ nm q N bs sn sub ab col dd k0 k1 k2 k3 k5, K.lookup C = some (excClassObj nm q C N bs (refs.map Value.ref ++ bmB) true sn sub ab col dd k0 k1 k2 k3 k5 newId)
  sa : PySem.W.findIn K (.ref C) "__setattr__" = some (some (.builtin "object.__setattr__"))
  ga : PySem.W.findIn K (.ref C) "__getattribute__" = some (some (.builtin "BaseException.__getattribute__"))
  gg : PySem.W.findIn K (.ref C) "__getattr__" = some none
  ca : PySem.W.findIn K (.ref C) "__class__" = some (some (.builtin "object.__class__"))
  tyC : PySem.W.typeIn K (.ref C) = some (.type "type")
  kC : PySem.W.keepIn K (.ref C) = true
section
variable {K : PySem.W.Frag} {C : Addr} {refs : List Addr} {B newId initId : String} {bmB : List Value}
theorem ErrC.cd (T : ErrC K C refs newId bmB) : ∃ cd, PySem.W.clsIn K C = some cd ∧ cd.mro = .ref C :: (refs.map Value.ref ++ bmB) ∧ cd.hasDict = true := by
  obtain ⟨nm, q, N, bs, sn, sub, ab, col, dd, k0, k1, k2, k3, k5, hC⟩ := T.cls
  exact ⟨{ name := nm, bases := bs, mro := .ref C :: (refs.map Value.ref ++ bmB), ns := N, qualname := q, hasDict := true, slotNames := sn, subclasses := sub, abstract := ab, collection := col, hasDel := false }, by unfold PySem.W.clsIn; rw [hC] <;> rfl, rfl, rfl⟩
theorem ErrC.mro (T : ErrC K C refs newId bmB) (base : Value) : PySem.W.mroIn K C base = some ((Value.ref C :: (refs.map Value.ref ++ bmB)).contains base) := by
  obtain ⟨cd, hcd, hm, _⟩ := T.cd
  unfold PySem.W.mroIn
  rw [hcd, Option.bind_some, hm]
  exact if_neg Bool.false_ne_true
theorem refs_has (T : String) : ∀ l : List Addr, (l.map Value.ref ++ bmB).contains (.type T) = bmB.contains (.type T)
  | [] => rfl
  | a :: r => by
    rw [List.map_cons, List.cons_append, List.contains_cons, refs_has T r]
    rfl
theorem refs_pass (m : Fam B newId initId bmB) (self : Value) : ∀ l : List Addr, refuseLoop self "__setattr__" (l.map Value.ref ++ bmB) = pure ()
  | [] => m.pass self
  | a :: r => by
    rw [List.map_cons, List.cons_append, PySem.refuseLoop_ref]
    exact refs_pass m self r
theorem ErrC.exC (T : ErrC K C refs newId bmB) (m : Fam B newId initId bmB) : PySem.W.subIn K (.ref C) (.type "BaseException") = some true := by
  show PySem.W.mroIn K C _ = _
  rw [T.mro, List.contains_cons, refs_has, m.F.hasBase, Bool.or_true]
theorem ErrC.hdC (T : ErrC K C refs newId bmB) : PySem.W.hasDictIn K C = true := by
  obtain ⟨cd, hcd, _, hd⟩ := T.cd
  unfold PySem.W.hasDictIn
  rw [hcd]
  exact hd
end
section
variable {X : Cx} {pins : List (Addr × Obj)} {σ : L2.St} {H : Hp} {s : Shared} {a C dx : Addr} {refs : List Addr} {B newId initId : String} {bmB : List Value} {f : Str} {y : V} {u : Value} {Q : Unit → Shared → Prop} {E : Value → Shared → Prop} {A : Around}
/-- self.f = y -/
theorem err_new (T : ErrC X.K C refs newId bmB) (m : Fam B newId initId bmB) (I : Inv X pins σ H s) (e : H a = some (exo a C none)) (hno : PySem.W.findIn X.K (.ref C) f = some none) (ry : RelV y u)
    (h : ∀ dx s', H dx = none → dx ≠ a → Inv X pins σ (upd (upd H dx (exd dx [(f, y)])) a (exo a C (some dx))) s' → Q () s') : wpAny (model X.prog X.w) A (setAttr (.ref a) f u) Q E s := by
  obtain ⟨cd, hcl, hmro, hdic⟩ := T.cd
  obtain ⟨t1, ho⟩ := exo_at I.hok e
  obtain ⟨hp, g, d, t, os⟩ := s
  refine PySem.W.set_plain I.kIn (ox := { cls := .ref C, dict := none, data := .fields #[.ref t1, .none, .none, .none, .bool false, .none] }) (od := none) ⟨ho, rfl, rfl, trivial⟩ T.sa ?_
  refine osa_gen I.kIn ho hcl (by rw [hmro]; rfl) (by rw [hmro, List.contains_cons, refs_has, m.obj, Bool.or_true]) (by rw [hmro, PySem.refuseLoop_ref]; exact refs_pass m _ refs) hdic hno (fun h' tk' dx k dn dne hx hn => ?_)
  have hnd : H dx = none := I.hok.fresh dn
  have nd : ∀ {b : Addr} {o : Obj}, hp.get? b = some o → b ≠ dx := fun {b o} q => Nat.ne_of_lt (Nat.lt_of_lt_of_le (Heap.lt_size q) dn)
  have na : ∀ {b : Addr}, H b = none → b ≠ a := fun {b} n z => by
    rw [z, e] at n
    cases n
  have Un1 : Un X.fs [] H (upd (upd H dx (exd dx [(f, y)])) a (exo a C (some dx))) hp h' := {
    keep := fun b o q n _ _ => k b o (na n) q
    slot := fun b o q n _ _ => ⟨o.slots, k b o (na n) q⟩
    free := fun b o q n _ => by rw [upd_ne (na n), upd_ne (nd q)]; exact n
    there := fun b o q _ => by
      by_cases hb : b = a
      · exact ⟨_, by rw [hb]; exact hx⟩
      · exact ⟨o, k b o hb q⟩
    tups := fun b xs q => by rw [upd_ne (at_ne e q exo_tup), upd_ne (ne_of_none q hnd)]; exact q
    frzs := fun b o v q => by rw [upd_ne (at_ne e q exo_frz), upd_ne (ne_of_none q hnd)]; exact q
    tbls := fun b ps q => ⟨#[], by rw [upd_ne (at_ne e q exo_tbl), upd_ne (ne_of_none q hnd), q]; simp⟩ }
  refine h dx _ hnd dne (I.un (t' := tk') Un1 fun b o q => ?_)
  by_cases hb : b = a
  · subst hb
    rw [upd_same] at q
    cases q
    exact exo_ok hx
  · rw [upd_ne hb] at q
    by_cases hd : b = dx
    · subst hd
      rw [upd_same] at q
      cases q
      exact exd_ok hn (relO_put (fs := []) ry fun g => True.intro)
    · rw [upd_ne hd] at q
      exact (I.hok b o q).stay (fun c v hc z => k c v (by
          rcases hc with hc | hc
          · rw [hc]
            exact hb
          · exact at_ne e hc exo_own) z)
        (fun c hc => by rw [upd_ne (at_ne e hc exo_own), upd_ne (ne_of_none hc hnd)]; exact hc) (fun c xs hc => by rw [upd_ne (at_ne e hc exo_tup), upd_ne (ne_of_none hc hnd)]; exact hc)
end
end Und
/-! errors as values: the rules -/
namespace Und
open PySem PySem.Spec PyProof.Rows L2 PySem.HandSPX
/-! ### isinstance of an error that has a dict of its own, or none -/
section
open PySem.W
variable {prog : Program} {w : World} {A : Around} {E : Value → Shared → Prop} {s : Shared} {K : Frag} {x D : Addr} {ox : Obj} {od : Option Obj}
theorem class_at {Q : Option Value → Shared → Prop} (hga : findIn K (.ref D) "__getattribute__" = some (some (.builtin "BaseException.__getattribute__"))) (hgt : findIn K (.ref D) "__getattr__" = some none) (hsub : subIn K (.ref D) (.type "BaseException") = some true)
    (hdct : hasDictIn K D = true) (ha : findIn K (.ref D) "__class__" = some (some (.builtin "object.__class__")))
    (hn : specialIn K (.builtin "object.__class__") "__get__" = some (some (.builtin "getset_descriptor.__get__"))) (htk : takesIn K (.builtin "object.__class__") = some true) (hm : mroIn K D (.type "object") = some true)
    (X : K.In s.heap) (I : InstAt s.heap x ox D od) (h : Q (some (.ref D)) { s with toks := s.toks + 1 }) : wpAny (model prog w) A (getAttr? (.ref x) "__class__") Q E s := by
  have hs0 : (clsIn K D).isSome = true := by obtain ⟨cd, hc, _⟩ := any_some hdct; rw [hc]; rfl
  have hf : findObj K D od "__class__" = some (.bind (.builtin "getset_descriptor.__get__") (.builtin "object.__class__")) := by
    cases od with
    | none => exact findObj_dataN hs0 ha hn htk
    | some od => exact findObj_data hs0 ha hn htk
  obtain ⟨hp, g, d, t, os⟩ := s
  have L0 := I.type (M := model prog w)
  have L1 := looks_findIn (M := model prog w) X hga
  have L2 := looks_findIn (M := model prog w) X hgt
  have L3 := looks_find (M := model prog w) X I hf
  have sub : Looks (model prog w) hp (isInstance (.ref x) (.type "BaseException")) true := L0.andThen (looks_subIn X hsub)
  have hx0 : (false && onTheHeap (Value.builtin "BaseException.__getattribute__")) = false := rfl
  have hx2 : (Value.builtin "BaseException.__getattribute__" == Value.builtin "object.__getattribute__") = false := by decide +kernel
  have hx1 : (onTheHeap (Value.ref D) && Value.builtin "BaseException.__getattribute__" == Value.builtin "object.__getattribute__") = false := by rw [hx2]; rfl
  unfold getAttr? getAttrBy? getAttrBy
  refine wpAny_bind (wpAny_mkText (wpAny_bind (wpAny_attempt (wpAny_holding (wpAny_bind (L0.at (wpAny_bind (L1.at ?_))))))))
  show wpAny _ _ (if (onTheHeap (Value.ref D) && Value.builtin "BaseException.__getattribute__" == Value.builtin "object.__getattribute__") = true then _ else _) _ _ _
  rw [hx1, if_neg Bool.false_ne_true]
  unfold getAttrByItsOwn hookBefore
  refine wpAny_bind ?_
  rw [if_pos (show onTheHeap (Value.ref D) = true from rfl)]
  refine L2.at ?_
  refine wpAny_bind (wpAny_attempt (wpAny_holding ?_))
  unfold callGetattribute
  rw [hx0, if_neg Bool.false_ne_true]
  unfold boundAndCalled
  rw [PySem.F.excAttr_ValueError.ga.bind (.ref x)]
  refine wpAny_bind (wpAny_pure ?_)
  show wpAny _ _ (call (.builtin "BaseException.__getattribute__") [.ref x, .str "__class__" t]) _ _ _
  refine wpAny_call (codeAny_call_builtin PySem.F.excAttr_ValueError.ga.plain PySem.F.entry_bexc_ga ?_)
  refine @check_slot (model prog w) _ _ ⟨hp, g, d, t + 1, os⟩ "BaseException.__getattribute__" "BaseException" "__getattribute__" (.ref x) [.str "__class__" t] [] _ (by decide +kernel) (by decide +kernel) sub (PySem.F.args_bexc_ga (.ref x) (.str "__class__" t)) ?_
  unfold Builtin.«object.__getattribute__»
  refine wpAny_bind (wpAny_of_eq (a := ((Value.ref x : Value), [Value.str "__class__" t])) (by first | rfl | (simp only [slotArgs]; rfl)) ?_)
  refine wpAny_bind (wpAny_pure (wpAny_bind (L0.at (wpAny_bind (L3.at ?_)))))
  show wpAny _ _ (holding [Value.builtin "object.__class__"] (call (.builtin "getset_descriptor.__get__") [.builtin "object.__class__", .ref x, .ref D]) >>= ret) _ _ _
  refine wpAny_bind (wpAny_holding (wpAny_call (class_get (s := ⟨hp, g, d, t + 1, os⟩) (ox := ox) (od := od) X I hm ?_)))
  refine wpAny_pure ?_
  show wpAny _ _ (handedOut (.ref D)) _ _ _
  rw [handedOut_of (v := .ref D) rfl]
  first
    | exact wpAny_pure (wpAny_pure h)
    | exact wpAny_pure h
    | exact wpAny_pure (wpAny_bind (wpAny_pure (wpAny_pure h)))
theorem kit_err (hga : findIn K (.ref D) "__getattribute__" = some (some (.builtin "BaseException.__getattribute__"))) (hgt : findIn K (.ref D) "__getattr__" = some none) (hsub : subIn K (.ref D) (.type "BaseException") = some true) (hdct : hasDictIn K D = true) (ha : findIn K (.ref D) "__class__" = some (some (.builtin "object.__class__")))
    (hn : specialIn K (.builtin "object.__class__") "__get__" = some (some (.builtin "getset_descriptor.__get__"))) (htk : takesIn K (.builtin "object.__class__") = some true) (hm : mroIn K D (.type "object") = some true) :
    KitX K (.ref x) (.ref D) (fun h => ∃ ox od, InstAt h x ox D od) where
  ty := fun _ _ _ ⟨_, _, I⟩ => I.type
  it := fun _ _ X _ => by
    obtain ⟨cdD, hcD, _⟩ := any_some hdct
    unfold clsIn at hcD
    split at hcD
    · rename_i c' d' cd' sl' ho
      intro A' Q' E' s' k q
      unfold isType loadHead
      exact wpAny_bind (wpAny_loadPart (k _ _ (X _ _ ho)) (wpAny_pure q))
    · cases hcD
  ne := fun h tp dd its n sl X htp => by
    obtain ⟨cdD, hcD, _⟩ := any_some hdct
    refine Bool.eq_false_iff.mpr fun q => ?_
    have e : D = tp := Value.ref.inj (beq_iff_eq.mp q)
    subst e
    unfold clsIn at hcD
    split at hcD
    · rename_i c' d' cd' sl' ho
      have z := (X _ _ ho).symm.trans htp
      cases z
    · cases hcD
  ca := fun X ⟨_, _, I⟩ k => class_at hga hgt hsub hdct ha hn htk hm X I k
end
/-- what the built-in members say of __class__ -/
structure ClsG (K : PySem.W.Frag) : Prop where
  hn : PySem.W.specialIn K (.builtin "object.__class__") "__get__" = some (some (.builtin "getset_descriptor.__get__"))
  ht : PySem.W.takesIn K (.builtin "object.__class__") = some true
/-- an error that was caught: its object as it stands -/
def exq (a : Addr) (oe : Obj) : HO := .ext fun h => h.get? a = some oe
theorem exq_at {P : Program} {w : World} {H : Hp} {h : Heap} {a : Addr} {oe : Obj} (ok : HOk P w H h) (e : H a = some (exq a oe)) : h.get? a = some oe := (ok a _ e).1
theorem exq_ok {P : Program} {w : World} {H : Hp} {h : Heap} {a : Addr} {oe : Obj} (e : h.get? a = some oe) : ObjOk P w H h a (exq a oe) := ⟨e, ⟨oe, e⟩, fun h1 h2 x k => k _ x⟩
/-- an error of the class at C stands at a, with its dict -/
def ErrAt (H : Hp) (a C : Addr) (fs : List (Str × V)) : Prop := (H a = some (exo a C none) ∧ fs = []) ∨ (∃ d, H a = some (exo a C (some d)) ∧ H d = some (exd d fs)) ∨ ∃ oe, H a = some (exq a oe) ∧ oe.cls = .ref C ∧ PySem.W.notCls oe = true ∧ ((oe.dict = none ∧ fs = []) ∨ ∃ d, oe.dict = some d ∧ H d = some (.xd fs))
theorem ErrAt.mono {H H' : Hp} {a C : Addr} {fs : List (Str × V)} (s : Same H H') (h : ErrAt H a C fs) : ErrAt H' a C fs := by
  rcases h with ⟨h, e⟩ | ⟨d, h1, h2⟩ | ⟨oe, h1, h2, hn, h3⟩
  · exact .inl ⟨s _ _ h, e⟩
  · exact .inr (.inl ⟨d, s _ _ h1, s _ _ h2⟩)
  · exact .inr (.inr ⟨oe, s _ _ h1, h2, hn, h3.imp id fun ⟨d, h4, h5⟩ => ⟨d, h4, s _ _ h5⟩⟩)
theorem exo_lst {e C : Addr} {d : Option Addr} {xs : List V} : exo e C d ≠ .lst xs := fun z => by
  have z' : HO.ext _ = HO.lst xs := z
  cases z'
theorem exq_lst {e : Addr} {o : Obj} {xs : List V} : exq e o ≠ .lst xs := fun z => by
  have z' : HO.ext _ = HO.lst xs := z
  cases z'
theorem exd_lst {e : Addr} {fs : List (Str × V)} {xs : List V} : exd e fs ≠ .lst xs := fun z => by
  have z' : HO.ext _ = HO.lst xs := z
  cases z'
theorem ErrAt.mut {H : Hp} {a C S : Addr} {fs : List (Str × V)} {l : List V} {o : HO} (e : H S = some (.lst l)) (h : ErrAt H a C fs) : ErrAt (upd H S o) a C fs := by
  rcases h with ⟨h, e2⟩ | ⟨d, h1, h2⟩ | ⟨oe, h1, h2, hn, h3⟩
  · exact .inl ⟨by rw [upd_ne (Ne.symm (at_ne h e exo_lst))]; exact h, e2⟩
  · exact .inr (.inl ⟨d, by rw [upd_ne (Ne.symm (at_ne h1 e exo_lst))]; exact h1, by rw [upd_ne (Ne.symm (at_ne h2 e exd_lst))]; exact h2⟩)
  · exact .inr (.inr ⟨oe, by rw [upd_ne (Ne.symm (at_ne h1 e exq_lst))]; exact h1, h2, hn, h3.imp id fun ⟨d, h4, h5⟩ => ⟨d, h4, by rw [upd_ne (ne_of h5 e (fun z => by cases z))]; exact h5⟩⟩)
section
variable {X : Cx} {pins : List (Addr × Obj)} {σ : L2.St} {H : Hp} {s : Shared} {a C : Addr} {fs : List (Str × V)}
theorem err_inst (I : Inv X pins σ H s) (h : ErrAt H a C fs) : ∃ (ox : Obj) (od : Option Obj) (mA : Str → Option Value), PySem.W.InstAt s.heap a ox C od ∧ (∀ o, od = some o → ∀ n, PySem.W.lookIn n o = some (mA n)) ∧ (fs ≠ [] → od.isSome = true) ∧ ∀ f, RelO (fs.lookup f) (mA f) := by
  rcases h with ⟨h, rfl⟩ | ⟨d, h1, h2⟩ | ⟨oe, h1, h2, hn, h3⟩
  · obtain ⟨t1, ho⟩ := exo_at I.hok h
    exact ⟨_, none, fun _ => none, ⟨ho, rfl, rfl, trivial⟩, fun o e => (by cases e), fun z => (z rfl).elim, fun f => trivial⟩
  · obtain ⟨t1, ho⟩ := exo_at I.hok h1
    obtain ⟨mA, hns, hr⟩ := exd_at I.hok h2
    obtain ⟨od, hod, hl⟩ := lookIn_ns hns
    exact ⟨_, some od, mA, ⟨ho, rfl, rfl, hod⟩, fun o e n => by cases e; exact hl n, fun _ => rfl, hr⟩
  · have ho := exq_at I.hok h1
    rcases h3 with ⟨hd, rfl⟩ | ⟨d, hd, h4⟩
    · exact ⟨_, none, fun _ => none, ⟨ho, h2, hn, by rw [hd]; trivial⟩, fun o e => (by cases e), fun z => (z rfl).elim, fun f => trivial⟩
    · obtain ⟨mA, hns, hr⟩ := (show ∃ mA, s.heap.Ns1 d mA ∧ ∀ f, RelO (fs.lookup f) (mA f) from I.hok d _ h4)
      obtain ⟨od, hod, hl⟩ := lookIn_ns hns
      exact ⟨_, some od, mA, ⟨ho, h2, hn, by rw [hd]; exact hod⟩, fun o e n => by cases e; exact hl n, fun _ => rfl, hr⟩
end
section
variable {X : Cx} {K : PySem.W.Frag} {C fI : Addr} {refs : List Addr} {B newId initId : String} {bmB : List Value}
/-- isinstance(e, c), e an error -/
def rIsErr (K : PySem.W.Frag) : List V → Hp → VK → Prop := fun xs H Q => ∃ (a C : Addr) (fs : List (Str × V)) (refs : List Addr) (B newId initId : String) (bmB : List Value) (c : V) (cv : Value) (b : Bool), xs = [.ref a, c] ∧ ClsV c cv ∧ ErrAt H a C fs ∧ ErrC K C refs newId bmB ∧ Fam B newId initId bmB ∧ ClsG K ∧ PySem.W.kitOne K (.ref C) cv = some b ∧ Q (.bl b) H
theorem callIsErr (hK : X.K = K := by rfl) : CallR X (.builtin "isinstance") (rIsErr K) := by
  subst hK
  intro pins s σ H xs us Q I r h
  obtain ⟨a, C, fs, refs, B, newId, initId, bmB, c, cv, b, rfl, k, hE, T, m, G, e, q⟩ := h
  obtain ⟨u1, u2, rfl, r1, r2⟩ := vals2 r
  have e2 := k.eq r2
  subst e2
  cases r1
  obtain ⟨ox, od, mA, J, _⟩ := err_inst I hE
  have hob : PySem.W.mroIn X.K C (.type "object") = some true := by rw [T.mro, List.contains_cons, refs_has, m.obj, Bool.or_true]
  exact PySem.W.kia_one (kit_err T.ga T.gg (T.exC m) T.hdC T.ca G.hn G.ht hob) I.kIn ⟨ox, od, J⟩ e (fun z => nomatch z) fun tk => ⟨.bl b, H, I.kept (t' := tk) fun _ _ z => z, rfl, q⟩
/-- e.f, e an error -/
def rFldE (K : PySem.W.Frag) (f : Str) (x : V) (H : Hp) (Q : VK) : Prop := ∃ (a C : Addr) (fs : List (Str × V)) (refs : List Addr) (B newId initId : String) (bmB : List Value) (v : V), x = .ref a ∧ ErrAt H a C fs ∧ ErrC K C refs newId bmB ∧ Fam B newId initId bmB ∧ PySem.W.findIn K (.ref C) f = some none ∧ fs.lookup f = some v ∧ Q v H
def tFldE (K : PySem.W.Frag) (f : Str) (te : TE) : TE := fun σ H Q => te σ H fun x H1 => rFldE K f x H1 Q
theorem c_fldE {f : Str} {te : TE} {σ : L2.St} {H : Hp} {Q : VK} (h : te σ H fun x H1 => rFldE K f x H1 Q) : tFldE K f te σ H Q := h
theorem peFldE {e : Expr} {f : Str} {te : TE} {pos : Pos} (he : PE X e te) (hb : attributeBase e f X.env (eval e X.env) = eval e X.env := by rfl) (hK : X.K = K := by rfl) : PE X (.Attribute e f pos) (tFldE K f te) := by
  subst hK
  refine ⟨fun pins s σ H Q I h => ?_⟩
  refine attr_of hb (thn (he.run pins s σ H _ I h) fun u s1 hh => ?_)
  obtain ⟨x, H1, I1, rx, a, C, fs, refs, B, newId, initId, bmB, v, rfl, hE, T, m, hno, l, q⟩ := hh
  obtain rfl : u = Value.ref a := rx
  obtain ⟨ox, od, mA, J, hl, hsome, hr⟩ := err_inst I1 hE
  have hne : fs ≠ [] := fun z => by
    rw [z] at l
    cases l
  obtain ⟨o, rfl⟩ := Option.isSome_iff_exists.mp (hsome hne)
  obtain ⟨u, hu, ru⟩ := RelO.some_of (v := v) (o := mA f) (by rw [← l]; exact hr f)
  exact HandSPX.exc_get I1.kIn J T.ga T.gg (T.exC m) (PySem.W.findObj_own T.hdC hno rfl (by rw [hl o rfl, hu])) (handed_of ru) ⟨v, H1, I1.tok _, ru, q⟩
/-- self.f = e, self an error that is being made -/
def rSetE (K : PySem.W.Frag) (f : Str) (y x : V) (σ : L2.St) (H : Hp) (D : Ends) : Prop := ∃ (a C : Addr) (refs : List Addr) (B newId initId : String) (bmB : List Value), x = .ref a ∧ ErrC K C refs newId bmB ∧ Fam B newId initId bmB ∧ PySem.W.findIn K (.ref C) f = some none ∧ H a = some (exo a C none) ∧ ∀ dx, H dx = none → dx ≠ a → D.nx σ (upd (upd H dx (exd dx [(f, y)])) a (exo a C (some dx)))
def tSetE (K : PySem.W.Frag) (f : Str) (to te : TE) : TS := fun D σ H => te σ H fun y H1 => to σ H1 fun x H2 => rSetE K f y x σ H2 D
theorem c_setE {f : Str} {to te : TE} {D : Ends} {σ : L2.St} {H : Hp} (h : te σ H fun y H1 => to σ H1 fun x H2 => rSetE K f y x σ H2 D) : tSetE K f to te D σ H := h
theorem psSetE {o e : Expr} {f : Str} {to te : TE} {p' pos : Pos} (ho : PE X o to) (he : PE X e te) (hs : swapsWith e (some (.Attribute o f p')) pos.line X.env = pure false := by rfl) (hK : X.K = K := by rfl) : PS X (.Assign [.Attribute o f p'] e pos) (tSetE K f to te) := by
  subst hK
  refine ⟨fun pins s σ H D I h => ?_⟩
  refine plainObj_wpAny_Assign_Attribute (thn (he.run pins s σ H _ I h) fun v s1 ⟨y, H1, I1, r1, q1⟩ => thn (ho.run pins s1 σ H1 _ I1 q1) fun u s2 ⟨x, H2, I2, r2, a, C, refs, B, newId, initId, bmB, ex, T, m, hno, ea, q⟩ => ?_) hs
  subst ex
  obtain rfl : u = Value.ref a := r2
  exact err_new T m I2 ea hno r1 fun dx s' n ne J => ⟨σ, _, J, q dx n ne⟩
/-- what __init__(self, f) of an error promises -/
def spErr (C : Addr) (f : Str) : Sp := fun vs H Q _ => ∃ (a : Addr) (v : V), vs = [.ref a, v] ∧ H a = some (exo a C none) ∧ ∀ dx, H dx = none → dx ≠ a → Q .non (upd (upd H dx (exd dx [(f, v)])) a (exo a C (some dx)))
/-- C(v): a new error that has its field -/
def rMkE (C : Addr) (f : Str) (vs : List V) (H : Hp) (Q : VK) : Prop := ∃ v, vs = [v] ∧ ∀ a d, H a = none → H d = none → d ≠ a → Q (.ref a) (upd (upd H d (exd d [(f, v)])) a (exo a C (some d)))
def tMkE (C : Addr) (f : Str) (t : TA) : TE := fun σ H Q => t σ H fun vs H1 => rMkE C f vs H1 Q
theorem c_mkE {f : Str} {t : TA} {σ : L2.St} {H : Hp} {Q : VK} (h : t σ H fun vs H1 => rMkE C f vs H1 Q) : tMkE C f t σ H Q := h
theorem c_rmkE {f : Str} {v : V} {H : Hp} {Q : VK} (h : ∀ a H', H a = none → Same H H' → ErrAt H' a C [(f, v)] → Q (.ref a) H') : rMkE C f [v] H Q := by
  refine ⟨v, rfl, fun a d na nd ne => h a _ na (fun b o e => ?_) (.inr (.inl ⟨d, upd_same, ?_⟩))⟩
  · rw [upd_ne (ne_of_none e na), upd_ne (ne_of_none e nd)]
    exact e
  · rw [upd_ne ne, upd_same]
/-- an error's own __init__ -/
structure ErrI (K : PySem.W.Frag) (C fI : Addr) : Prop where
  iC : PySem.W.findIn K (.ref C) "__init__" = some (some (.ref fI))
  tI : PySem.W.typeIn K (.ref fI) = some (.type "function")
end
section
variable {X : Cx} {C fI : Addr} {refs : List Addr} {B newId initId : String} {bmB : List Value} {k : Nat} {fd : FuncData} {ps : List Str} {f x : Str} {e : Expr} {t : TA} {p pos : Pos}
theorem mk_back {pins : List (Addr × Obj)} {σ : L2.St} {H1 : Hp} {Q : VK} {hp h2 : Heap} {g : Array GenState} {d : Drawn} {tk : Nat} {os : OsState} {us : List Value} {s' : Shared} {r : Result} {v : V}
    (I2 : Inv X pins σ (upd H1 (hp.objs.size + 1) (exo (hp.objs.size + 1) C none)) ⟨h2, g, d, tk, os⟩) (hn : H1 (hp.objs.size + 1) = none) (q1 : ∀ a d, H1 a = none → H1 d = none → d ≠ a → Q (.ref a) (upd (upd H1 d (exd d [(f, v)])) a (exo a C (some d))))
    (hq : CR CX0 X.stack X.prog X.w (upd H1 (hp.objs.size + 1) (exo (hp.objs.size + 1) C none)) ⟨h2, g, d, tk, os⟩ (fun z H2 => z = .non ∧ ∃ dx, H1 dx = none ∧ dx ≠ hp.objs.size + 1 ∧ H2 = upd (upd (upd H1 (hp.objs.size + 1) (exo (hp.objs.size + 1) C none)) dx (exd dx [(f, v)])) (hp.objs.size + 1) (exo (hp.objs.size + 1) C (some dx))) (fun _ _ _ => False) r s') :
    PySem.W.InitBack (hp.objs.size + 1) (fun r s' => match r with | .ok (.ret u) => EP X pins σ Q u s' | .ok _ => False | .error e => X.xe e s') r s' := by
  cases r with
  | error er => exact (show False from hq).elim
  | ok fl =>
    cases fl with
    | ret u =>
      obtain ⟨z, H2, I3, rv, ez, dx, n1, n2, eH⟩ := I2.after hq
      subst ez
      refine ⟨rv, .ref (hp.objs.size + 1), H2, I3, rfl, ?_⟩
      have e3 : H2 = upd (upd H1 dx (exd dx [(f, v)])) (hp.objs.size + 1) (exo (hp.objs.size + 1) C (some dx)) := by
        rw [eH]
        funext b
        by_cases h1 : b = hp.objs.size + 1
        · rw [h1, upd_same, upd_same]
        · rw [upd_ne h1, upd_ne h1]
          by_cases h2 : b = dx
          · rw [h2, upd_same, upd_same]
          · rw [upd_ne h2, upd_ne h2, upd_ne h1]
      rw [e3]
      exact q1 _ dx hn n1 n2
    | next => exact False.elim hq
    | brk => exact False.elim hq
    | cont => exact False.elim hq
theorem pe_mkE (T : ErrC X.K C refs newId bmB) (m : Fam B newId initId bmB) (W : ErrI X.K C fI) (F1 : FnOk X.prog X.w X.K X.mg X.base CX0 k fI fd ps (spErr C f)) (hr : Room (k + 1) X.A) (hb : Binds X.K fd ps []) (hg : Gl X x) (hm : X.mg x = some (.ref C)) (ha : PA X [e] t)
    (hdb : (x == ("__debug__" : Str)) = false := by decide) (he : starEach [e] X.env = (false, eval e X.env) :: starEach [] X.env := by rfl) (hpl : (backTo pos (starEach [] X.env)).any (·.1) = false := by rfl) :
    PE X (.Call (.Name x p) [e] [] pos) (tMkE C f t) := by
  refine ⟨fun pins s σ H Q I h => ?_⟩
  obtain ⟨nm, q, N, bs, sn, sub, ab, col, dd, k0, k1, k2, k3, k5, hC⟩ := T.cls
  refine wpAny_Call_Name_kw (ld_glob I hg hm ?_ hdb)
  refine PySem.W.callWith_K (h₀ := X.base) I.ok.mod.kin T.kC (thn (ha.run pos pins s σ H _ I h) fun us s1 ⟨vs, H1, I1, r1, v, ev, q1⟩ => ⟨I1.kIn, ?_⟩) he hpl
  subst ev
  obtain ⟨u, rfl, ru⟩ := vals1 r1
  show wpAny _ _ (call (.ref C) [u]) _ _ _
  obtain ⟨hp, g, dr, tk, os⟩ := s1
  have hsz : hp.objs.size ≤ hp.objs.size + 1 := Nat.le_succ _
  have hn : H1 (hp.objs.size + 1) = none := I1.hok.fresh hsz
  have kk : ∀ b o, hp.get? b = some o → ((hp.push (PySem.W.kdv_tup [u])).push (PySem.HandSPX.excO C hp.objs.size)).get? b = some o := fun b o e => Heap.get?_push_of_some _ (Heap.get?_push_of_some _ e)
  have hget : ((hp.push (PySem.W.kdv_tup [u])).push (PySem.HandSPX.excO C hp.objs.size)).get? (hp.objs.size + 1) = some (PySem.HandSPX.excO C hp.objs.size) := by heap_get
  have I2 : Inv X pins σ (upd H1 (hp.objs.size + 1) (exo (hp.objs.size + 1) C none)) ⟨(hp.push (PySem.W.kdv_tup [u])).push (PySem.HandSPX.excO C hp.objs.size), g, dr, tk, os⟩ :=
    I1.laid (t' := tk) (a := hp.objs.size + 1) (o := exo (hp.objs.size + 1) C none) (h' := (hp.push (PySem.W.kdv_tup [u])).push (PySem.HandSPX.excO C hp.objs.size)) kk hsz (exo_ok hget)
  have r2 : Vals [V.ref (hp.objs.size + 1), v] [Value.ref (hp.objs.size + 1), u] := .cons rfl (.cons ru .nil)
  have hq : spErr C f [V.ref (hp.objs.size + 1), v] (upd H1 (hp.objs.size + 1) (exo (hp.objs.size + 1) C none)) (fun z H2 => z = .non ∧ ∃ dx, H1 dx = none ∧ dx ≠ hp.objs.size + 1 ∧ H2 = upd (upd (upd H1 (hp.objs.size + 1) (exo (hp.objs.size + 1) C none)) dx (exd dx [(f, v)])) (hp.objs.size + 1) (exo (hp.objs.size + 1) C (some dx))) (fun _ _ _ => False) :=
    ⟨_, v, rfl, upd_same, fun dx n ne => ⟨rfl, dx, by rw [upd_ne ne] at n; exact n, ne, rfl⟩⟩
  have hl := F1.len _ _ _ _ hq
  refine wpAny_call (PySem.HandSPX.call_own m.F (fun Y => refs_has Y refs) (I1.kIn _ _ hC) (PySem.W.looks_findIn I1.kIn W.iC) (fun self => PySem.W.bind_fn I1.kIn self W.tI) (by rw [sizeLine_eq]; show 1 ≤ _; decide)
    (codeAny_mono (F1.run _ X.stack _ _ ⟨[Value.ref (hp.objs.size + 1), u], []⟩ [Value.ref (hp.objs.size + 1), u] _ _ (fun _ _ _ => False) (hr.make C [u] []) (I2.env0.make C [u] []) (by
      have z := hb ⟨(hp.push (PySem.W.kdv_tup [u])).push (PySem.HandSPX.excO C hp.objs.size), g, dr, tk, os⟩ [Value.ref (hp.objs.size + 1), u] I2.kIn (by simpa using hl)
      simpa using z) r2 hq) fun r s' hq' => ?_))
  exact mk_back (us := [u]) I2 hn q1 hq'
theorem pe_mkEK {kws : List Keyword} {tk : TA} (T : ErrC X.K C refs newId bmB) (m : Fam B newId initId bmB) (W : ErrI X.K C fI) (F1 : FnOk X.prog X.w X.K X.mg X.base CX0 k fI fd ps (spErr C f)) (hr : Room (k + 1) X.A) (hb : KBinds X.K fd ps [f] (gK 1 1) (gK 1 1)) (hg : Gl X x) (hm : X.mg x = some (.ref C)) (hkw : PK X kws tk)
    (hdb : (x == ("__debug__" : Str)) = false := by decide) (hall : (backToKw pos (keywordEach kws X.env)).all (·.1.isSome) = true := by rfl) (hks : (backToKw pos (keywordEach kws X.env)).filterMap (·.1) = [f] := by rfl)
    (hpl : ((backTo pos (starEach [] X.env)).any (·.1) || (backToKw pos (keywordEach kws X.env)).any (·.1.isNone)) = false := by rfl) :
    PE X (.Call (.Name x p) [] kws pos) (tMkE C f tk) := by
  refine ⟨fun pins s σ H Q I h => ?_⟩
  obtain ⟨nm, q, N, bs, sn, sub, ab, col, dd, k0, k1, k2, k3, k5, hC⟩ := T.cls
  refine wpAny_Call_Name_kw (ld_glob I hg hm ?_ hdb)
  refine PySem.W.callWith_KW0 (first := []) (h₀ := X.base) I.ok.mod.kin T.kC hall (thn (hkw.run pos pins s σ H _ I h) fun us s1 ⟨vs, H1, I1, r1, v, ev, q1⟩ => ⟨I1.kIn, ?_⟩) hpl
  subst ev
  obtain ⟨u, rfl, ru⟩ := vals1 r1
  rw [hks]
  show wpAny _ _ (call (.ref C) [] [(f, u)]) _ _ _
  obtain ⟨hp, g, dr, tk, os⟩ := s1
  have hsz : hp.objs.size ≤ hp.objs.size + 1 := Nat.le_succ _
  have hn : H1 (hp.objs.size + 1) = none := I1.hok.fresh hsz
  have kk : ∀ b o, hp.get? b = some o → ((hp.push (PySem.W.kdv_tup [])).push (PySem.HandSPX.excO C hp.objs.size)).get? b = some o := fun b o e => Heap.get?_push_of_some _ (Heap.get?_push_of_some _ e)
  have hget : ((hp.push (PySem.W.kdv_tup [])).push (PySem.HandSPX.excO C hp.objs.size)).get? (hp.objs.size + 1) = some (PySem.HandSPX.excO C hp.objs.size) := by heap_get
  have I2 : Inv X pins σ (upd H1 (hp.objs.size + 1) (exo (hp.objs.size + 1) C none)) ⟨(hp.push (PySem.W.kdv_tup [])).push (PySem.HandSPX.excO C hp.objs.size), g, dr, tk, os⟩ :=
    I1.laid (t' := tk) (a := hp.objs.size + 1) (o := exo (hp.objs.size + 1) C none) (h' := (hp.push (PySem.W.kdv_tup [])).push (PySem.HandSPX.excO C hp.objs.size)) kk hsz (exo_ok hget)
  have r2 : Vals [V.ref (hp.objs.size + 1), v] [Value.ref (hp.objs.size + 1), u] := .cons rfl (.cons ru .nil)
  have hq : spErr C f [V.ref (hp.objs.size + 1), v] (upd H1 (hp.objs.size + 1) (exo (hp.objs.size + 1) C none)) (fun z H2 => z = .non ∧ ∃ dx, H1 dx = none ∧ dx ≠ hp.objs.size + 1 ∧ H2 = upd (upd (upd H1 (hp.objs.size + 1) (exo (hp.objs.size + 1) C none)) dx (exd dx [(f, v)])) (hp.objs.size + 1) (exo (hp.objs.size + 1) C (some dx))) (fun _ _ _ => False) :=
    ⟨_, v, rfl, upd_same, fun dx n ne => ⟨rfl, dx, by rw [upd_ne ne] at n; exact n, ne, rfl⟩⟩
  have hl := F1.len _ _ _ _ hq
  refine wpAny_call (kw_call m.F (fun Y => refs_has Y refs) (I1.kIn _ _ hC) (PySem.W.looks_findIn I1.kIn W.iC) (fun self => PySem.W.bind_fn I1.kIn self W.tI)
    (codeAny_mono (F1.run _ X.stack _ _ ⟨[Value.ref (hp.objs.size + 1)], [(f, u)]⟩ [Value.ref (hp.objs.size + 1), u] _ _ (fun _ _ _ => False) (hr.make C [] [(f, u)]) (I2.env0.make C [] [(f, u)]) (by
      have z := hb.to ⟨(hp.push (PySem.W.kdv_tup [])).push (PySem.HandSPX.excO C hp.objs.size), g, dr, tk, os⟩ [Value.ref (hp.objs.size + 1)] [u] I2.kIn (by show (gK 1 1 _ _).length = _; exact hl)
      exact z) r2 hq) fun r s' hq' => ?_))
  exact mk_back (us := []) I2 hn q1 hq'
/-- C(), an error of a class without an __init__ of its own -/
def rMkE0 (C : Addr) (H : Hp) (Q : VK) : Prop := ∀ a H', H a = none → Same H H' → ErrAt H' a C [] → Q (.ref a) H'
def tMkE0 (C : Addr) : TE := fun σ H Q => rMkE0 C H Q
theorem c_mkE0 {σ : L2.St} {H : Hp} {Q : VK} (h : ∀ a H', H a = none → Same H H' → ErrAt H' a C [] → Q (.ref a) H') : tMkE0 C σ H Q := h
theorem pe_mkE0 (m : ExcBaseFacts B newId initId bmB) (q : PySem.W.excIn X.K C bmB newId = true) (kC : PySem.W.keepIn X.K (.ref C) = true) (hg : Gl X x) (hm : X.mg x = some (.ref C)) (hdb : (x == ("__debug__" : Str)) = false := by decide) :
    PE X (.Call (.Name x p) [] [] pos) (tMkE0 C) := by
  refine ⟨fun pins s σ H Q I h => ?_⟩
  refine wpAny_Call_Name_kw (ld_glob I hg hm ?_ hdb)
  refine PySem.W.callWith_K0 I.kIn kC ?_
  show wpAny _ _ (call (.ref C) []) _ _ _
  obtain ⟨bm, N, nm, qn, bs, hdct, sn, sub, ab, col, dd, k0, k1, k2, k3, k5, mN, hC, hN, hni, T⟩ := exc_obj I.kIn q
  refine wpAny_call_exc_subT m T hC hN hni (fun h' a hmade => ?_) (by show 0 ≤ sizeLine; exact Nat.zero_le _)
  have hn : H a = none := I.hok.gone hmade.new
  obtain ⟨t, ht, _, _⟩ := hmade.there
  exact ⟨.ref a, upd H a (exo a C none), I.laidN hmade.keeps hmade.new hn (exo_ok ht), rfl, h a _ hn (same_new hn) (.inl ⟨upd_same, rfl⟩)⟩
end
end Und
/-! calls by keywords alone; texts of data -/
namespace Und
open PySem PySem.Spec PyProof.Rows L2
/-- two parameters, named the other way round -/
def gSwap {α : Type} : List α → List α → List α
  | [], [a, b] => [b, a]
  | _, _ => []
/-- one parameter by its name -/
def gOne {α : Type} : List α → List α → List α
  | [], [a] => [a]
  | _, _ => []
theorem gSwap_rel : ∀ {vs : List V} {us : List Value} {zs : List V} {ws : List Value}, Vals vs us → Vals zs ws → Vals (gSwap vs zs) (gSwap us ws) := by
  intro vs us zs ws h g
  cases h with
  | nil =>
    cases g with
    | nil => exact .nil
    | cons a g =>
      cases g with
      | nil => exact .nil
      | cons b g =>
        cases g with
        | nil => exact .cons b (.cons a .nil)
        | cons c g => exact .nil
  | cons a h => cases g <;> exact .nil
theorem gOne_rel : ∀ {vs : List V} {us : List Value} {zs : List V} {ws : List Value}, Vals vs us → Vals zs ws → Vals (gOne vs zs) (gOne us ws) := by
  intro vs us zs ws h g
  cases h with
  | nil =>
    cases g with
    | nil => exact .nil
    | cons a g =>
      cases g with
      | nil => exact .cons a .nil
      | cons b g => exact .nil
  | cons a h => cases g <;> exact .nil
theorem fun_swap {K : PySem.W.Frag} {x qual : Str} {st : Stmt} {f : Addr} {fd : FuncData} {p1 p2 : Str} (F : Fun K x qual st f fd)
    (h : ∀ (kV doc pm : Value) (an : Option Addr) (cdv ct a b : Value), bindArgs (PySem.W.fnOf x qual (defArgs st) (defBody st) (defScope st) .none kV doc pm an cdv ct) ⟨[], [(p2, a), (p1, b)]⟩ = pure [(p1, b), (p2, a)]) : KBinds K fd [p1, p2] [p2, p1] gSwap gSwap := by
  obtain ⟨oc, od, kV, doc, pm, an, cdv, ct, osl, rfl, lk, hcd⟩ := F.ex
  refine ⟨fun s us ws _ hl => ?_, gSwap_rel⟩
  match us, ws, hl with
  | [], [a, b], _ => exact .of_eq (h kV doc pm an cdv ct a b)
  | [], [], hl => exact absurd hl (by simp [gSwap])
  | [], [_], hl => exact absurd hl (by simp [gSwap])
  | [], _ :: _ :: _ :: _, hl => exact absurd hl (by simp [gSwap])
  | _ :: _, ws, hl => exact absurd hl (by simp [gSwap])
section
variable {X : Cx} {CX : CXT} {k : Nat} {f : Addr} {fd : FuncData} {ps ks : List Str} {sp : Sp} {E : XK} {x : Str} {p pos : Pos} {kws : List Keyword} {tk : TA} {g : List Value → List Value → List Value} {gV : List V → List V → List V}
def tCallK0 (sp : Sp) (gV : List V → List V → List V) (E : XK) (tk : TA) : TE := fun σ H Q => tk σ H fun zs H2 => sp (gV [] zs) H2 Q E
/-- f(k = v, ..) -/
theorem pe_callK0 (F : FnOk X.prog X.w X.K X.mg X.base CX k f fd ps sp) (hr : Room k X.A) (hg : Gl X x) (hm : X.mg x = some (.ref f)) (hk : PySem.W.keepIn X.K (.ref f) = true) (hb : KBinds X.K fd ps ks g gV) (hx : Passes CX X E)
    (hkw : PK X kws tk) (hall : (backToKw pos (keywordEach kws X.env)).all (·.1.isSome) = true := by rfl) (hks : (backToKw pos (keywordEach kws X.env)).filterMap (·.1) = ks := by rfl)
    (hdb : (x == ("__debug__" : Str)) = false := by decide)
    (hpl : ((backTo pos (starEach [] X.env)).any (·.1) || (backToKw pos (keywordEach kws X.env)).any (·.1.isNone)) = false := by rfl) :
    PE X (.Call (.Name x p) [] kws pos) (tCallK0 sp gV E tk) := by
  refine ⟨fun pins s σ H Q I h => ?_⟩
  refine wpAny_Call_Name_kw (ld_glob I hg hm ?_ hdb)
  refine PySem.W.callWith_KW0 (h₀ := X.base) I.ok.mod.kin hk hall ?_ hpl
  refine thn (hkw.run pos pins s σ H _ I h) fun ws s2 ⟨zs, H2, I2, rz, q2⟩ => ⟨I2.kIn, ?_⟩
  rw [hks]
  exact run_fnk F hr hb hx I2 .nil rz q2
end
theorem c_callK0 {sp : Sp} {gV : List V → List V → List V} {E : XK} {tk : TA} {σ : L2.St} {H : Hp} {Q : VK} (h : tk σ H fun zs H2 => sp (gV [] zs) H2 Q E) : tCallK0 sp gV E tk σ H Q := h
/-! ### how long the texts of data are -/
def Shw (d : PyData) (n : Nat) : Prop := d.showable = true ∧ d.shown.length ≤ n
theorem Shw.mono {d : PyData} {n m : Nat} (h : Shw d n) (l : n ≤ m) : Shw d m := ⟨h.1, Nat.le_trans h.2 l⟩
theorem shw_all {n : Nat} : ∀ {ds : List PyData}, (∀ d ∈ ds, Shw d n) → PyData.showableAll ds = true ∧ ∀ t ∈ PyData.shownAll ds, t.length ≤ n
  | [], _ => ⟨by simp [PyData.showableAll], fun t ht => by simp [PyData.shownAll] at ht⟩
  | d :: ds, h => by
    have ih := shw_all fun x hx => h x (List.mem_cons_of_mem _ hx)
    have hd := h d List.mem_cons_self
    refine ⟨by rw [PyData.showableAll, hd.1, ih.1]; rfl, fun t ht => ?_⟩
    rw [PyData.shownAll] at ht
    rcases List.mem_cons.mp ht with rfl | ht
    · exact hd.2
    · exact ih.2 t ht
theorem shownAll_len : ∀ ds : List PyData, (PyData.shownAll ds).length = ds.length
  | [] => by simp [PyData.shownAll]
  | d :: ds => by rw [PyData.shownAll, List.length_cons, List.length_cons, shownAll_len ds]
theorem joinC_len {n : Nat} : ∀ ts : List Str, (∀ t ∈ ts, t.length ≤ n) → (Str.join ", " ts).length ≤ (n + 2) * ts.length
  | [], _ => Nat.zero_le _
  | [x], h => by
    have := h x List.mem_cons_self
    show x.length ≤ (n + 2) * 1
    omega
  | x :: y :: r, h => by
    have ih := joinC_len (y :: r) fun t ht => h t (List.mem_cons_of_mem _ ht)
    have hx := h x List.mem_cons_self
    have e2 : ((", " : String) : Str).length = 2 := rfl
    show (x ++ ", " ++ Str.join ", " (y :: r)).length ≤ _
    rw [PySem.Str.length_append, PySem.Str.length_append, e2, List.length_cons (a := x), Nat.mul_succ]
    omega
theorem shw_tuple {ds : List PyData} {n : Nat} (h : ∀ d ∈ ds, Shw d n) : Shw (.tuple ds) ((n + 2) * ds.length + 3) := by
  obtain ⟨a, b⟩ := shw_all h
  refine ⟨by rw [PyData.showable]; exact a, ?_⟩
  rw [PyData.shown]
  have := joinC_len _ b
  rw [shownAll_len] at this
  unfold tupleText
  have e1 : ((("(" : String) : Str)).length = 1 := rfl
  have e3 : (((if (PyData.shownAll ds).length == 1 then ",)" else ")" : String) : Str)).length ≤ 2 := by split <;> decide
  rw [PySem.Str.length_append, PySem.Str.length_append, e1]
  omega
theorem textFrom_le {n : Nat} : ∀ (ts : List Str) (k : Nat) (acc : Str), (∀ t ∈ ts, t.length ≤ n) → (textFrom k acc ts).length ≤ acc.length + (n + 2) * ts.length
  | [], _, _, _ => Nat.le_add_right _ _
  | t :: r, k, acc, h => by
    have ht := h t List.mem_cons_self
    have ih := textFrom_le r (k + 1) (acc ++ (if k > 0 then ", " else "" : String) ++ t) fun x hx => h x (List.mem_cons_of_mem _ hx)
    have e : (acc ++ (if k > 0 then ", " else "" : String) ++ t).length ≤ acc.length + 2 + t.length := by
      rw [PySem.Str.length_append, PySem.Str.length_append]
      have : (((if k > 0 then ", " else "" : String)) : Str).length ≤ 2 := by split <;> decide
      omega
    rw [List.length_cons, Nat.mul_succ]
    show (textFrom (k + 1) (acc ++ (if k > 0 then ", " else "" : String) ++ t) r).length ≤ _
    omega
theorem shw_list {ds : List PyData} {n : Nat} (h : ∀ d ∈ ds, Shw d n) : Shw (.list ds) ((n + 2) * ds.length + 3) := by
  obtain ⟨a, b⟩ := shw_all h
  refine ⟨by rw [PyData.showable]; exact a, ?_⟩
  rw [PyData.shown]
  have := textFrom_le (PyData.shownAll ds) 0 "[" b
  rw [shownAll_len] at this
  unfold listText
  have e1 : ((("[" : String) : Str)).length = 1 := rfl
  have e3 : ((("]" : String) : Str)).length = 1 := rfl
  rw [PySem.Str.length_append, e3]
  omega
theorem shw_int {i : Int} (h0 : 0 ≤ i) (h : i < 10 ^ 510) : Shw (.int i) 510 := by
  have hb : i.natAbs < 2 ^ 1700 := by
    have c : (10 : Int) ^ 510 < ((2 ^ 1700 : Nat) : Int) := by decide +kernel
    omega
  refine ⟨?_, ?_⟩
  · rw [PyData.showable]
    exact decide_eq_true (Nat.lt_trans (PySem.Flt.log2_lt_of (by decide) hb) (by decide))
  · rw [PyData.shown]
    exact toString_length_le h0 (by decide) h
theorem shw_name {z : Str} (h : IsName z) : Shw (.str z) 82 := by
  refine ⟨by rw [PyData.showable], ?_⟩
  rw [PyData.shown]
  have h1 := PySem.StrLaws.reprText_len z (fun c hc => Nat.lt_of_le_of_lt (h.low c hc).2 (by decide))
  have h2 := h.hi
  omega
theorem crR {X : Cx} {K : PySem.W.Frag} {k : Nat} (g : Still X.A) (r : Room k X.A) (h : X.K = K := by rfl) : CallR X (.builtin "repr") (crRepr K) := h ▸ cr_repr g r
/-- repr of data that is not long -/
theorem c_repr {K : PySem.W.Frag} {a : Addr} {d : PyData} {n m : Nat} {H : Hp} {Q : VK} (hd : Dp K H (.ref a) d) (ok : DOk d n) (ln : n ≤ 32) (sh : Shw d m) (lm : m ≤ 10000000) (h : Q (.str d.shown) H) : crRepr K [.ref a] H Q :=
  ⟨a, d, rfl, hd, sh.1, PyData.hasDict_of_canLay d ok.lay, Nat.le_trans ok.dep ln, Nat.le_trans sh.2 (Nat.le_trans lm (by decide)), h⟩
/-! ### a list is unpacked -/
theorem pgLst {X : Cx} {K : PySem.W.Frag} {es : List Expr} {k : Nat} {t : TGs} {n : Nat} {pos : Pos} (hc : X.calm = true) (ht : PGs X es t) (h : X.K = K := by rfl) (hn : (assignEach es X.env).length = n := by rfl) (hst : (assignEach es X.env).findIdx? (·.1) = none := by rfl) :
    PG X (.Tuple es k pos) (gLst K n t) := h ▸ pg_lst hc ht hn hst
theorem c_glst {K : PySem.W.Frag} {a : Addr} {xs : List V} {n : Nat} {t : TGs} {σ : L2.St} {H : Hp} {Q : L2.St → Hp → Prop} (e : SqL K H a xs) (hn : xs.length = n) (h : t xs σ H Q) : gLst K n t (.ref a) σ H Q := ⟨a, xs, rfl, e, hn, h⟩
end Und
/-! count and index over flat values; repr of a list of empty dicts -/
namespace Und
open PySem PySem.Spec PyProof.Rows L2
section
variable {X : Cx} {K : PySem.W.Frag} {a : Addr} {H : Hp} {Q : VK}
/-- list.count over flat values -/
def rCntV (K : PySem.W.Frag) (x : V) (xs : List V) (H : Hp) (Q : VK) : Prop := ∃ (a : Addr) (ys : List V) (y : V), x = V.ref a ∧ xs = [y] ∧ SqL K H a ys ∧ flatV y = true ∧ ys.all flatV = true ∧ Q (.int ((ys.countP fun z => eqV z y : Nat))) H
theorem cnt_eqU {y : V} : ∀ {ys : List V} {us : List Value}, Vals ys us → ys.all flatV = true → us.countP (eqU y) = ys.countP fun z => eqV z y
  | _, _, .nil, _ => rfl
  | z :: ys, u :: us, .cons r t, f => by
    rw [List.all_cons, Bool.and_eq_true] at f
    rw [List.countP_cons, List.countP_cons, cnt_eqU t f.2, eqU_of r f.1]
theorem mtCntV (h : X.K = K := by rfl) : MtR X "list.count" (rCntV K) := by
  subst h
  intro pins s σ H x xs v us Q I rx rxs h
  obtain ⟨a, ys, y, rfl, rfl, hs, fy, fys, q⟩ := h
  cases rx
  cases rxs with
  | cons ry rt =>
    rename_i uy ut
    cases rt
    obtain ⟨its, rv, ⟨⟨cls, dd, data, sl⟩, n, ho, hc, hdn, hd⟩, hlen⟩ := I.list hs
    simp only at hc hd
    subst hc hd
    refine call_meets PySem.F.slot_list_count ⟨_, ho, rfl⟩ PySem.F.entry_list_count (PySem.F.args_list_count_2 _ _)
      (SeqAt.list_countAt a its.toArray n dd sl uy (eqU y)) ⟨ho, fun u' hu' => mem_eqAt ry fy rv fys u' (by simpa using hu'), ?_⟩
    refine ⟨.int ((ys.countP fun z => eqV z y : Nat)), H, I.tok _, ⟨s.toks, ?_⟩, q⟩
    show Value.int ((its.toArray.toList.countP (eqU y) : Nat) : Int) s.toks = _
    rw [show its.toArray.toList = its from rfl, cnt_eqU rv fys]
theorem c_cntV {ys : List V} {y : V} (e : SqL K H a ys) (fy : flatV y = true) (fys : ys.all flatV = true) (h : Q (.int ((ys.countP fun z => eqV z y : Nat))) H) : rCntV K (.ref a) [y] H Q := ⟨a, ys, y, rfl, rfl, e, fy, fys, h⟩
def rIdxV (K : PySem.W.Frag) (x : V) (xs : List V) (H : Hp) (Q : VK) : Prop := rIndex K x xs H Q
theorem mtIdxV (h : X.K = K := by rfl) : MtR X "list.index" (rIdxV K) := h ▸ mt_index
theorem c_idxV {ys : List V} {y z : V} {j : Nat} (e : SqL K H a ys) (fy : flatV y = true) (fys : ys.all flatV = true) (hz : ys[j]? = some z) (hj : eqV z y = true) (hno : ∀ (m : Nat) (z' : V), m < j → ys[m]? = some z' → eqV z' y = false) (h : Q (.int (j : Nat)) H) : rIdxV K (.ref a) [y] H Q := ⟨a, ys, y, j, z, rfl, rfl, e, fy, fys, hz, hj, hno, h⟩
end
/-! ### a list display; a dict display -/
section
variable {X : Cx} {es : List Expr} {t : TA} {pos : Pos}
/-- a new list, which is not the table of modules -/
def rNewLB (xs : List V) (H : Hp) (Q : VK) : Prop := xs.length ≤ sizeLine ∧ ∀ p, H p = none → p ≠ sysModules → Q (.ref p) (upd H p (.lst xs))
def tLstB (t : TA) : TE := fun σ H Q => t σ H fun xs H1 => rNewLB xs H1 Q
theorem peLstB (h : PA X es t) : PE X (.List es pos) (tLstB t) := by
  refine ⟨fun pins s σ H Q I hq => ?_⟩
  refine wpAny_List_spliced (thn (h.run pos pins s σ H _ I hq) fun us s1 ⟨xs, H1, I1, r, z, q⟩ => ⟨by rw [← r.length]; exact z, ?_⟩)
  have hf : H1 s1.heap.objs.size = none := I1.hok.fresh (Nat.le_refl _)
  refine ⟨.ref s1.heap.objs.size, upd H1 s1.heap.objs.size (.lst xs), I1.laid (t' := s1.toks) (fun b u e => Heap.get?_push_of_some _ e) (Nat.le_refl _) ?_, rfl, q _ hf (Nat.ne_of_gt I1.big)⟩
  exact ⟨z, us, 0, r, Heap.get?_push_size _ rfl⟩
theorem c_lstB {σ : L2.St} {H : Hp} {Q : VK} (h : t σ H fun xs H1 => rNewLB xs H1 Q) : tLstB t σ H Q := h
theorem c_newLB {xs : List V} {H : Hp} {Q : VK} (z : xs.length ≤ 100000) (h : ∀ p H2, H p = none → p ≠ sysModules → Same H H2 → H2 p = some (.lst xs) → Q (.ref p) H2) : rNewLB xs H Q := ⟨sz z, fun p np nb => h p _ np nb (same_new np) upd_same⟩
end
/-! ### repr -/
section
variable {X : Cx} {K : PySem.W.Frag}
/-- a list of two empty dicts -/
theorem reads_two {pins : List (Addr × Obj)} {σ : L2.St} {H : Hp} {s : Shared} {a b : Addr} (I : Inv X pins σ H s) (e : H a = some (.lst [.ref b, .ref b])) (eb : H b = some (.dK [])) (ne : a ≠ sysModules) :
    ∃ as, Reads s.heap (.ref a) (.list [.dict [], .dict []]) as ∧ sysModules ∉ as := by
  obtain ⟨_, hsm, vs, kv, o, es, ep, ho, hx, hd, _, hp, _⟩ := dk_of I.hok eb
  have nb : b ≠ sysModules := beq_eq_false_iff_ne.mp hsm
  cases kv
  have hes : es.toList = [] := by
    generalize es.toList = l at hp
    cases hp
    rfl
  have rb : Reads s.heap (.ref b) (.dict []) (b :: [] ++ []) := Reads.dict ho hx.1 hd (by rw [hes]; exact .nil) (by rw [hes]; exact .nil)
  obtain ⟨_, us, n, r, ha⟩ := (show ObjOk X.prog X.w H s.heap a (.lst [.ref b, .ref b]) from I.hok a _ e)
  obtain ⟨u1, u2, rfl, r1, r2⟩ := vals2 r
  obtain rfl : u1 = Value.ref b := r1
  obtain rfl : u2 = Value.ref b := r2
  refine ⟨_, Reads.list ha rfl rfl (.cons rb (.cons rb .nil)), fun z => ?_⟩
  simp only [List.cons_append, List.nil_append, List.append_nil, List.mem_cons, List.not_mem_nil, or_false] at z
  rcases z with z | z | z
  · exact ne z.symm
  · exact nb z.symm
  · exact nb z.symm
/-- repr of data or of a list of two empty dicts -/
def crRepr2 (K : PySem.W.Frag) : List V → Hp → VK → Prop := fun xs H Q => crRepr K xs H Q ∨ ∃ (a b : Addr), xs = [.ref a] ∧ H a = some (.lst [.ref b, .ref b]) ∧ H b = some (.dK []) ∧ a ≠ sysModules ∧ Q (.str (PyData.list [.dict [], .dict []]).shown) H
theorem crR2 {k : Nat} (g : Still X.A) (r : Room k X.A) (h : X.K = K := by rfl) : CallR X (.builtin "repr") (crRepr2 K) := by
  subst h
  intro pins s σ H xs us Q I v h
  rcases h with h | ⟨a, b, rfl, ha, hb, ne, q⟩
  · exact cr_repr g r pins s σ H xs us Q I v h
  obtain ⟨u, rfl, hu⟩ : ∃ u, us = [u] ∧ u = Value.ref a := by
    cases v with
    | cons h1 h2 =>
      cases h2
      exact ⟨_, rfl, h1⟩
  subst hu
  obtain ⟨as, rd, hns⟩ := reads_two I ha hb ne
  have ru := r.units
  exact repr_of_reads' rd (by decide +kernel) (fun _ => hns) g (by show X.A.units + (_ + 1) < _; have : (PyData.list [.dict [], .dict []]).depth ≤ 32 := by decide +kernel
                                                                   omega) (fun _ _ e => e) (fun h' u tk k => ⟨.str _, H, I.kept k, ⟨u, rfl⟩, q⟩) (by decide +kernel)
theorem c_repr2 {a : Addr} {d : PyData} {n m : Nat} {H : Hp} {Q : VK} (hd : Dp K H (.ref a) d) (ok : DOk d n) (ln : n ≤ 32) (sh : Shw d m) (lm : m ≤ 10000000) (h : Q (.str d.shown) H) : crRepr2 K [.ref a] H Q := .inl (c_repr hd ok ln sh lm h)
theorem c_reprTwo {a b : Addr} {H : Hp} {Q : VK} (ha : H a = some (.lst [.ref b, .ref b])) (hb : H b = some (.dK [])) (ne : a ≠ sysModules) (h : Q (.str (PyData.list [.dict [], .dict []]).shown) H) : crRepr2 K [.ref a] H Q := .inr ⟨a, b, rfl, ha, hb, ne, h⟩
end
end Und
namespace Und
open PySem PySem.Spec PyProof.Rows L2
/-! ### isinstance of an error, by its place in the list of classes -/
section
variable {K : PySem.W.Frag} {C D : Addr} {refs : List Addr} {newId : String} {bmB : List Value}
/-- a class written in a module -/
structure ClsX (K : PySem.W.Frag) (D : Addr) : Prop where
  i : (PySem.W.clsIn K D).isSome = true
  t : PySem.W.typeIn K (.ref D) = some (.type "type")
theorem ErrC.clsx (T : ErrC K C refs newId bmB) : ClsX K C := by
  obtain ⟨cd, h, _⟩ := T.cd
  exact ⟨by rw [h]; rfl, T.tyC⟩
theorem refs_addr : ∀ l : List Addr, (∀ a, bmB.contains (Value.ref a) = false) → (l.map Value.ref ++ bmB).contains (.ref D) = l.contains D
  | [], h => h D
  | a :: r, h => by
    rw [List.map_cons, List.cons_append, List.contains_cons, List.contains_cons, refs_addr r h]
    have e : (Value.ref D == Value.ref a) = (D == a) := by
      rw [Bool.eq_iff_iff, beq_iff_eq, beq_iff_eq]
      exact ⟨Value.ref.inj, congrArg _⟩
    rw [e]
theorem ErrC.kit (T : ErrC K C refs newId bmB) (h : ∀ a, bmB.contains (Value.ref a) = false) (cx : ClsX K D) : PySem.W.kitOne K (.ref C) (.ref D) = some (decide (D = C) || refs.contains D) := by
  show (if (Value.ref C == Value.ref D) = true then some true else if ((PySem.W.clsIn K D).isSome && PySem.W.typeIn K (.ref D) == some (.type "type")) = true then PySem.W.subIn K (.ref C) (.ref D) else none) = _
  rw [cx.i, cx.t]
  by_cases e : D = C
  · subst e
    rw [if_pos (by simp)]
    simp
  · have e1 : (Value.ref C == Value.ref D) = false := beq_eq_false_iff_ne.mpr fun z => e (Value.ref.inj z).symm
    have e2 : (Value.ref D == Value.ref C) = false := beq_eq_false_iff_ne.mpr fun z => e (Value.ref.inj z)
    rw [if_neg (by rw [e1]; decide), if_pos (by rfl)]
    show PySem.W.mroIn K C _ = _
    rw [T.mro, List.contains_cons, refs_addr refs h, e2, decide_eq_false e]
theorem ErrC.kitT (T : ErrC K C refs newId bmB) {b : String} (hm : PySem.W.kitMeta b = true) : PySem.W.kitOne K (.ref C) (.type b) = some (bmB.contains (.type b)) := by
  show (if (Value.ref C == Value.type b) = true then some true else if PySem.W.kitMeta b = true then PySem.W.subIn K (.ref C) (.type b) else none) = _
  rw [if_neg (by intro z; cases (beq_iff_eq.mp z)), if_pos hm]
  show PySem.W.mroIn K C _ = _
  rw [T.mro, List.contains_cons, refs_has]
  rfl
/-- which base the error class at this place has -/
def bsI (j : Nat) : Nat := if j < 14 then 17 else if j < 16 then 18 else 19
/-- the class C stands at j among the classes L -/
structure ErrK (K : PySem.W.Frag) (L : List Addr) (C : Addr) (j : Nat) : Prop where
  e : ∃ refs B newId initId bmB, ErrC K C refs newId bmB ∧ Fam B newId initId bmB
  lt : j < 17
  k : ∀ (i : Nat) (D : Addr), i < 17 → L[i]? = some D → PySem.W.kitOne K (.ref C) (.ref D) = some (decide (i = j))
  b : ∀ (i : Nat) (D : Addr), 17 ≤ i → L[i]? = some D → PySem.W.kitOne K (.ref C) (.ref D) = some (decide (i = bsI j))
  c : ∀ (i : Nat) (D : Addr), 17 ≤ i → L[i]? = some D → PySem.W.kitCls K (.ref C) (.ref D) = some (decide (i = bsI j))
  v : PySem.W.kitOne K (.ref C) (.type "ValueError") = some (decide (17 = bsI j))
  l : PySem.W.kitOne K (.ref C) (.type "LookupError") = some (decide (18 = bsI j))
  a : PySem.W.kitOne K (.ref C) (.type "ArithmeticError") = some (decide (19 = bsI j))
theorem errK {L : List Addr} {j : Nat} {B newId initId : String} {Bs : Addr} (nd : L.Nodup) (T : ErrC K C [Bs] newId bmB) (m : Fam B newId initId bmB) (h : ∀ a, bmB.contains (Value.ref a) = false) (hj : j < 17) (hC : L[j]? = some C) (hB : L[bsI j]? = some Bs)
    (cx : ∀ (i : Nat) (D : Addr), L[i]? = some D → ClsX K D) (v : bmB.contains (.type "ValueError") = decide (17 = bsI j)) (l : bmB.contains (.type "LookupError") = decide (18 = bsI j)) (a : bmB.contains (.type "ArithmeticError") = decide (19 = bsI j)) : ErrK K L C j := by
  have inj : ∀ {i k : Nat} {x : Addr}, L[i]? = some x → L[k]? = some x → i = k := fun {i k x} e1 e2 => by
    obtain ⟨h1, r1⟩ := List.getElem?_eq_some_iff.mp e1
    obtain ⟨h2, r2⟩ := List.getElem?_eq_some_iff.mp e2
    have pw := List.pairwise_iff_getElem.mp nd
    rcases Nat.lt_trichotomy i k with z | z | z
    · exact (pw i k h1 h2 z (r1.trans r2.symm)).elim
    · exact z
    · exact (pw k i h2 h1 z (r2.trans r1.symm)).elim
  have hb : 17 ≤ bsI j := by
    unfold bsI
    split
    · omega
    · split <;> omega
  have key : ∀ i D, L[i]? = some D → PySem.W.kitOne K (.ref C) (.ref D) = some (decide (i = j) || decide (i = bsI j)) := fun i D e => by
    rw [T.kit h (cx i D e)]
    have e1 : (D = C) = (i = j) := propext ⟨fun z => inj e (z ▸ hC), fun z => Option.some.inj ((z ▸ e).symm.trans hC)⟩
    have e2 : [Bs].contains D = decide (i = bsI j) := by
      rw [List.contains_cons, List.contains_nil, Bool.or_false]
      have e3 : (D = Bs) = (i = bsI j) := propext ⟨fun z => inj e (z ▸ hB), fun z => Option.some.inj ((z ▸ e).symm.trans hB)⟩
      show decide (D = Bs) = _
      simp only [e3]
    rw [e2]
    simp only [e1]
  refine ⟨⟨_, _, _, _, _, T, m⟩, hj, fun i D hi e => ?_, fun i D hi e => ?_, fun i D hi e => ?_, (T.kitT (by decide +kernel)).trans (congrArg some v), (T.kitT (by decide +kernel)).trans (congrArg some l), (T.kitT (by decide +kernel)).trans (congrArg some a)⟩
  · rw [key i D e, decide_eq_false (p := i = bsI j) (by omega), Bool.or_false]
  · rw [key i D e, decide_eq_false (p := i = j) (by omega), Bool.false_or]
  · have h1 := key i D e
    rw [decide_eq_false (p := i = j) (by omega), Bool.false_or] at h1
    have ne : (Value.ref C == Value.ref D) = false := beq_eq_false_iff_ne.mpr fun z => by
      have z' := Value.ref.inj z
      rw [← z'] at e
      have := inj e hC
      omega
    unfold PySem.W.kitOne at h1
    rw [ne, if_neg Bool.false_ne_true] at h1
    exact h1
end
end Und
/-! errors that are raised and caught -/
namespace Und
open PySem PySem.Spec PyProof.Rows L2 PySem.HandSPX
open L2H (RoomH)
/-! ### what may leave a body -/
section
variable {X : Cx} {E : XK} {E₁ : Value → Shared → Prop}
theorem takesE (hs : X.stack = X.env :: X.outer) (hf : X.env.frame = some X.env.locals) (hex : X.ex = []) (hx : X.xe = fun e s' => wpAny (model X.prog X.w) X.A (leaving X.env e) (fun _ s'' => L2.CX X.prog X.w X.outer X.H_0 X.s_0 E e s'') E₁ s') :
    Takes X (fun c d _ H => E c d H) := takes_of hs hf hex hx
theorem passT {W : WX} (tk : Takes X W) (h : ∀ c d σ H, E c d H → W c d σ H) : Passes (L2.CX X.prog X.w) X E := fun p σ H s e s' I c => passes_call tk h p σ H s e s' I c
theorem passX (hs : X.stack = X.env :: X.outer := by rfl) (hf : X.env.frame = some X.env.locals := by rfl) (hex : X.ex = [] := by rfl)
    (hx : X.xe = fun e s' => wpAny (model X.prog X.w) X.A (leaving X.env e) (fun _ s'' => L2.CX X.prog X.w X.outer X.H_0 X.s_0 E e s'') E₁ s' := by rfl) : Passes (L2.CX X.prog X.w) X E := passT (takesE hs hf hex hx) fun _ _ _ _ h => h
end
/-! ### raise C(v) -/
/-- C(v) is raised: its dict is new, and holds v -/
def Rsd (C : Addr) (f : Str) (v : V) (H : Hp) (E : XK) : Prop := ∀ d H', H d = none → Same H H' → H' d = some (.xd [(f, v)]) → E (.ref C) (some d) H'
def rMkX (C : Addr) (f : Str) (vs : List V) (H : Hp) (E : XK) : Prop := ∃ v, vs = [v] ∧ Rsd C f v H E
def tMkX (C : Addr) (f : Str) (t : TA) : L2.St → Hp → XK → Prop := fun σ H E => t σ H fun vs H1 => rMkX C f vs H1 E
section
variable {X : Cx} {C fI : Addr} {refs : List Addr} {B newId initId : String} {bmB : List Value} {k : Nat} {fd : FuncData} {ps : List Str} {f x : Str} {e : Expr} {t : TA} {p pos : Pos}
theorem pmk_E (T : ErrC X.K C refs newId bmB) (m : Fam B newId initId bmB) (W : ErrI X.K C fI) (F1 : FnOk X.prog X.w X.K X.mg X.base CX0 k fI fd ps (spErr C f)) (hr : Room (k + 1) X.A) (hb : Binds X.K fd ps []) (hg : Gl X x) (hm : X.mg x = some (.ref C)) (ha : PA X [e] t)
    (hdb : (x == ("__debug__" : Str)) = false := by decide) (he : starEach [e] X.env = (false, eval e X.env) :: starEach [] X.env := by rfl) (hpl : (backTo pos (starEach [] X.env)).any (·.1) = false := by rfl) : PMk X (.Call (.Name x p) [e] [] pos) (tMkX C f t) := by
  intro pins s σ H Q I h
  obtain ⟨nm, q, N, bs, sn, sub, ab, col, dd, k0, k1, k2, k3, k5, hC⟩ := T.cls
  refine wpAny_Call_Name_kw (ld_glob I hg hm ?_ hdb)
  refine PySem.W.callWith_K (h₀ := X.base) I.ok.mod.kin T.kC (thn (ha.run pos pins s σ H _ I h) fun us s1 ⟨vs, H1, I1, r1, v, ev, q1⟩ => ⟨I1.kIn, ?_⟩) he hpl
  subst ev
  obtain ⟨u, rfl, ru⟩ := vals1 r1
  show wpAny _ _ (call (.ref C) [u]) _ _ _
  obtain ⟨hp, g, dr, tk, os⟩ := s1
  have sz1 : hp.objs.size ≤ hp.objs.size + 1 := Nat.le_succ _
  have hn : H1 (hp.objs.size + 1) = none := I1.hok.fresh sz1
  have keep2 : ∀ b o, hp.get? b = some o → ((hp.push (PySem.W.kdv_tup [u])).push (PySem.HandSPX.excO C hp.objs.size)).get? b = some o := fun b o e => Heap.get?_push_of_some _ (Heap.get?_push_of_some _ e)
  have there : ((hp.push (PySem.W.kdv_tup [u])).push (PySem.HandSPX.excO C hp.objs.size)).get? (hp.objs.size + 1) = some (PySem.HandSPX.excO C hp.objs.size) := by heap_get
  have I2 : Inv X pins σ (upd H1 (hp.objs.size + 1) (exo (hp.objs.size + 1) C none)) ⟨(hp.push (PySem.W.kdv_tup [u])).push (PySem.HandSPX.excO C hp.objs.size), g, dr, tk, os⟩ :=
    I1.laid (t' := tk) keep2 sz1 (exo_ok there)
  have r2 : Vals [V.ref (hp.objs.size + 1), v] [Value.ref (hp.objs.size + 1), u] := .cons rfl (.cons ru .nil)
  have hq : spErr C f [V.ref (hp.objs.size + 1), v] (upd H1 (hp.objs.size + 1) (exo (hp.objs.size + 1) C none)) (fun z H2 => z = .non ∧ ∃ dx, H1 dx = none ∧ dx ≠ hp.objs.size + 1 ∧ H2 = upd (upd (upd H1 (hp.objs.size + 1) (exo (hp.objs.size + 1) C none)) dx (exd dx [(f, v)])) (hp.objs.size + 1) (exo (hp.objs.size + 1) C (some dx))) (fun _ _ _ => False) :=
    ⟨_, v, rfl, upd_same, fun dx n ne => ⟨rfl, dx, by rw [upd_ne ne] at n; exact n, ne, rfl⟩⟩
  have hl := F1.len _ _ _ _ hq
  refine wpAny_call (PySem.HandSPX.call_own m.F (fun Y => refs_has Y refs) (I1.kIn _ _ hC) (PySem.W.looks_findIn I1.kIn W.iC) (fun self => PySem.W.bind_fn I1.kIn self W.tI) (by rw [sizeLine_eq]; show 1 ≤ _; decide)
    (codeAny_mono (F1.run _ X.stack _ _ ⟨[Value.ref (hp.objs.size + 1), u], []⟩ [Value.ref (hp.objs.size + 1), u] _ _ (fun _ _ _ => False) (hr.make C [u] []) (I2.env0.make C [u] []) (by
      have z := hb ⟨(hp.push (PySem.W.kdv_tup [u])).push (PySem.HandSPX.excO C hp.objs.size), g, dr, tk, os⟩ [Value.ref (hp.objs.size + 1), u] I2.kIn (by simpa using hl)
      simpa using z) r2 hq) fun r s' hq' => ?_))
  match r, hq' with
  | .error er, hq' => exact (show False from hq').elim
  | .ok (.ret u'), hq' =>
    obtain ⟨z, H2, os2, bare2, un2, hok2, rv, ez, dx, n1, n2, eH⟩ := hq'
    subst ez
    obtain ⟨h2, g2, d2, t2, os'⟩ := s'
    have nd : ∀ {b : Addr} {o : HO}, H1 b = some o → b ≠ dx := fun {b o} e => ne_of_none e n1
    have na : ∀ {b : Addr} {o : HO}, H1 b = some o → b ≠ hp.objs.size + 1 := fun {b o} e => ne_of_none e hn
    refine ⟨rv, mk_end (raises_own (T.exC m) T.tyC) I1 sz1 keep2 un2 hok2 os2 bare2 (by rw [eH, upd_same]) (fs := [(f, v)]) (d := dx) (by rw [eH, upd_ne n2, upd_same]) n1 (q1 dx _ n1 (fun b o e => ?_) upd_same)⟩
    rw [upd_ne (nd e), del_ne (na e), eH, upd_ne (na e), upd_ne (nd e), upd_ne (na e)]
    exact e
  | .ok .next, hq' => exact False.elim hq'
  | .ok .brk, hq' => exact False.elim hq'
  | .ok .cont, hq' => exact False.elim hq'
/-- raise C(v) -/
def tRse (t : L2.St → Hp → XK → Prop) (E : XK) : TS := fun _ σ H => t σ H E
theorem c_rse {E : XK} {D : Ends} {σ : L2.St} {H : Hp} (h : t σ H fun vs H1 => rMkX C f vs H1 E) : tRse (tMkX C f t) E D σ H := h
theorem c_rsd {E : XK} {v : V} {H : Hp} (h : Rsd C f v H E) : rMkX C f [v] H E := ⟨v, rfl, h⟩
theorem ps_rse {E : XK} {t : L2.St → Hp → XK → Prop} {E₁ : Value → Shared → Prop} (he : PMk X e t) (hc : X.calm = true := by rfl) (hs : X.stack = X.env :: X.outer := by rfl) (hf : X.env.frame = some X.env.locals := by rfl) (hex : X.ex = [] := by rfl)
    (hx : X.xe = fun e s' => wpAny (model X.prog X.w) X.A (leaving X.env e) (fun _ s'' => L2.CX X.prog X.w X.outer X.H_0 X.s_0 E e s'') E₁ s' := by rfl) : PS X (.Raise (some e) none pos) (tRse t E) :=
  ps_raise hc (takesE hs hf hex hx) he
end
/-- a promise of either kind -/
theorem FnOk.or {P : Program} {w : World} {K : PySem.W.Frag} {mg : Str → Option Value} {base : Heap} {k : Nat} {f : Addr} {fd : FuncData} {ps : List Str} {sp sp' : Sp} (F : FnOk P w K mg base CX0 k f fd ps sp) (G : FnOk P w K mg base (L2.CX P w) k f fd ps sp') :
    FnOk P w K mg base (L2.CX P w) k f fd ps (fun vs H Q E => sp vs H Q E ∨ sp' vs H Q E) := by
  refine ⟨fun vs H Q E h => h.elim (F.len vs H Q E) (G.len vs H Q E), fun A outer s H args us vs Q E r e0 b v h => ?_⟩
  rcases h with h | h
  · refine codeAny_mono (F.run A outer s H args us vs Q E r e0 b v h) fun z s' q => ?_
    match z, q with
    | .error e, q => exact (show False from q).elim
    | .ok (.ret u), q => exact q
    | .ok .next, q => exact False.elim q
    | .ok .brk, q => exact False.elim q
    | .ok .cont, q => exact False.elim q
  · exact G.run A outer s H args us vs Q E r e0 b v h
/-- .. whose errors are not of interest -/
theorem FnOk.cx {P : Program} {w : World} {K : PySem.W.Frag} {mg : Str → Option Value} {base : Heap} {k : Nat} {f : Addr} {fd : FuncData} {ps : List Str} {sp : Sp} (F : FnOk P w K mg base CX0 k f fd ps sp) : FnOk P w K mg base (L2.CX P w) k f fd ps sp :=
  ⟨F.len, fun A outer s H args us vs Q E r e0 b v h => codeAny_mono (F.run A outer s H args us vs Q E r e0 b v h) fun z s' q => match z, q with
    | .error _, q => (show False from q).elim
    | .ok (.ret _), q => q
    | .ok .next, q => False.elim q
    | .ok .brk, q => False.elim q
    | .ok .cont, q => False.elim q⟩
/-! ### try: .. except (x1, x2, x3) as n: suite -/
theorem flyZ_keeps {B : Heap} {l : List Env} {e : Addr} {Z : Obj → Prop} {h h' : Heap} (F : FlyingZ B l e Z h) (k : ∀ b o, h.get? b = some o → h'.get? b = some o) : FlyingZ B l e Z h' := by
  obtain ⟨f1, f2, f3, oe, vs, T, oT, ts, he, hz, hd, h1, hn, hne, hT, hdT, h3⟩ := F
  exact ⟨fun b o q => k b o (f1 b o q), f2, f3.of_keeps fun b o q _ => ⟨o, k b o q, rfl⟩, oe, vs, T, oT, ts, k _ _ he, hz, hd, h1, hn, hne, k _ _ hT, hdT, h3⟩
/-- the ends of a suite at whose end the slot i is gone -/
def goneD (i : Nat) (D : Ends) : Ends := { nx := fun σ' H' => D.nx (σ'.set i none) H', rt := D.rt, bk := fun σ' H' => D.bk (σ'.set i none) H', ct := fun σ' H' => D.ct (σ'.set i none) H' }
def wT (K : PySem.W.Frag) (cs : List Value) (i n : Nat) (ts : TS) (D : Ends) : WX := fun cls d σ H =>
  PySem.W.exmAny K cls cs = some true ∧ ∀ a oe, σ.length = n → H a = none → oe.cls = cls → oe.dict = d → PySem.W.notCls oe = true → ts (goneD i D) (σ.set i (some (.ref a))) (upd H a (exq a oe))
def tTry (K : PySem.W.Frag) (cs : List Value) (i n : Nat) (tb : WX → TS) (ts : TS) : TS := fun D σ H => tb (wT K cs i n ts D) D σ H
section
variable {X : Cx} {pins : List (Addr × Obj)} {σ : L2.St} {H : Hp} {s : Shared}
/-- the caught error is tracked, where the suite begins -/
theorem suite_in {B : Heap} {a : Addr} {oe : Obj} {sI s' : Shared} (ok : X.Ok) (J : Inv X pins σ H sI) (nb : ∀ b o, sI.heap.get? b = some o → b ∉ frs X.stack → B.get? b = some o) (nB : B.get? a = none) (nF : a ∉ frs X.stack)
    (st : B.StaysIn s'.heap) (up : sI.heap.UpToSlots s'.heap) (os : s'.os = sI.os) (ag : AllBare s'.gens) (he : s'.heap.get? a = some oe) (na : H a = none) : Inv (X.suite a (X.pn ++ pins)) [] σ (upd H a (exq a oe)) s' := by
  obtain ⟨G, g1, g2⟩ := restrict s'.heap fun b => decide (b ≠ a)
  have gk : ∀ b, b ≠ a → G.get? b = s'.heap.get? b := fun b hb => g1 b (decide_eq_true hb)
  have ga : G.get? a = none := g2 a (by simp)
  have nI : sI.heap.get? a = none := by
    cases q : sI.heap.get? a with
    | none => rfl
    | some o =>
      have z := nb a o q nF
      rw [nB] at z
      cases z
  have stG : B.StaysIn G := fun b o e => by
    have hb : b ≠ a := fun z => by
      rw [z, nB] at e
      cases e
    rw [gk b hb]
    exact st b o e
  have upG : sI.heap.UpToSlots G := fun b o e hd => by
    have hb : b ≠ a := fun z => by
      rw [z, nI] at e
      cases e
    rw [gk b hb]
    exact up b o e hd
  have J1 : Inv X pins σ H ⟨G, s'.gens, s'.drawn, s'.toks, s'.os⟩ := J.landed (s' := ⟨G, s'.gens, s'.drawn, s'.toks, s'.os⟩) nb stG upG os ag
  have J2 : Inv X pins σ (upd H a (exq a oe)) s' := J1.laidN (t' := s'.toks) (h' := s'.heap) (fun b o e => by
    have hb : b ≠ a := fun z => by
      rw [z, ga] at e
      cases e
    rw [← gk b hb]
    exact e) ga na (exq_ok he)
  exact ⟨ok.suite _ _, J2.os, J2.bare, J2.base, J2.loc, J2.cell, J2.free, J2.freeC, fun p hp => J2.pin p (by rw [List.append_nil] at hp; exact hp), J2.hok, J2.len⟩
theorem suite_out {a : Addr} {pn' : List (Addr × Obj)} (I : Inv (X.suite a (X.pn ++ pins)) pn' σ H s) (ok : X.Ok) : Inv X pins σ H s :=
  ⟨ok, I.os, I.bare, I.base, I.loc, I.cell, I.free, I.freeC, fun p hp => I.pin p (List.mem_append_left _ hp), I.hok, I.len⟩
end
section
variable {X : Cx} {x1 x2 x3 n : Str} {c1 c2 c3 : Value} {i kk : Nat} {body suite : List Stmt} {b₀ : Stmt} {p1 p2 p3 tp pos pos' : Pos} {tb : WX → TS} {ts : TS}
theorem ps_tryT (hs : X.stack = X.env :: X.outer) (hf : X.env.frame = some X.env.locals) (hN : X.N.Nodup) (hi : X.N[i]? = some n) (hln : X.env.kindOf n = some .local) (n1 : Names X x1 c1) (n2 : Names X x2 c2) (n3 : Names X x3 c3)
    (hb : ∀ (W : WX) (pn : List (Addr × Obj)) (xe : Value → Shared → Prop), Takes (X.tr pn xe) W → PSs (X.tr pn xe) body (tb W)) (hsu : ∀ (a : Addr) (pn : List (Addr × Obj)), PSs (X.suite a pn) (b₀ :: suite) ts) :
    PS X (.Try body [.ExceptHandler (some (.Tuple [.Name x1 p1, .Name x2 p2, .Name x3 p3] kk tp)) (some n) (b₀ :: suite) pos'] [] [] pos) (tTry X.K [c1, c2, c3] i X.N.length tb ts) := by
  refine ⟨fun pins s σ H D I h => ?_⟩
  have ok := I.ok
  have fr2 : X.A.frames = some (X.env :: X.outer) := by rw [ok.frames, hs]
  refine wpAny_Try_except ?_
  refine wpAny_mono ((hb (wT X.K [c1, c2, c3] i X.N.length ts D) (X.pn ++ pins) _ (fun u s' xx => ?_)).run [] s σ H D (I.toTry (fun e s₁ => wpAny (model X.prog X.w) X.A (noteFrame e X.env) (fun _ s₂ => wpAny (model X.prog X.w) X.A (setFlight e none) (fun _ s₃ =>
    wpAny (model X.prog X.w) X.A (handleBy e X.env [.ExceptHandler (some (.Tuple [.Name x1 p1, .Name x2 p2, .Name x3 p3] kk tp)) (some n) (b₀ :: suite) pos']) (SP X pins D) X.xe s₃) X.xe s₂) X.xe s₁)) h) (fun f s1 hsp => ?_) (fun e s1 he => he)
  · obtain ⟨a, B, sI, pins', σ', H', cls, d, rfl, J', nb, up, sky, na, os, ag, ex, hyes⟩ := xx
    have J : Inv X pins σ' H' sI := J'.ofTry ok
    have sky' : Sky B (X.env :: X.outer) a (Zc cls d) X.env.locals s'.heap := by rw [← hs]; exact sky
    show wpAny (model X.prog X.w) X.A (noteFrame (.ref a) X.env) _ _ _
    refine Sky.land Zc.steady fr2 hf sky' fun h3 fl3 up3 => ?_
    have J3 : Inv X pins σ' H' ⟨h3, s'.gens, s'.drawn, s'.toks, s'.os⟩ := J.landed (s' := ⟨h3, s'.gens, s'.drawn, s'.toks, s'.os⟩) nb fl3.1 (up.trans up3) os ag
    obtain ⟨oe3, vs3, he3, hz3, hd3⟩ := fl3.there
    have nfr : a ∉ frs (X.env :: X.outer) := fun hm => by
      obtain ⟨_, o', e', hnf⟩ := fl3.2.2.1.mem hm
      rw [he3] at e'
      cases e'
      exact hnf _ hd3
    have nL : a ≠ X.env.locals := fun z => nfr (List.mem_filterMap.mpr ⟨X.env, List.mem_cons_self, by rw [hf, z]⟩)
    have nF : a ∉ X.fs := fun hm => by
      obtain ⟨e, he, q⟩ := List.mem_filterMap.mp hm
      exact nfr (List.mem_filterMap.mpr ⟨e, List.mem_cons_of_mem _ he, q⟩)
    have nfr' : a ∉ frs X.stack := by
      rw [hs]
      exact nfr
    have S3 := J3.suite he3 hd3 na nL nF
    refine wpAny_handleBy_cons (codeAny_handlers_test ?_) (by intro q; cases q)
    have LT : PySem.W.Looks (model X.prog X.w) h3 (typeOf (.ref a)) cls := fun A Q E s k q => wpAny_typeOf_ref (k _ _ he3) (by rw [hz3.1]; exact q)
    have name : ∀ {x : Str} {c : Value} {np : Pos} {Q : Value → Shared → Prop} {E : Value → Shared → Prop}, Names X x c → Q c ⟨h3, s'.gens, s'.drawn, s'.toks, s'.os⟩ → wpAny (model X.prog X.w) (X.A.mark (some (.ref a))) (eval (.Name x np) X.env) Q E ⟨h3, s'.gens, s'.drawn, s'.toks, s'.os⟩ := fun {x c np Q E} hc q => by
      obtain ⟨hg, hdbg, hm | ⟨hm, hv, hnn⟩⟩ := hc
      · exact ld_glob (X := X.suite a ((a, oe3) :: (X.pn ++ pins))) S3 hg hm q hdbg
      · exact ld_blt (X := X.suite a ((a, oe3) :: (X.pn ++ pins))) S3 hg hm hv q hnn hdbg
    refine wpAny_Tuple (wpAny_items_cons (name n1 (wpAny_items_cons (name n2 (wpAny_items_cons (name n3 (wpAny_items_nil ⟨by size_fits, ?_⟩)))))))
    have kp : ∀ b o, h3.get? b = some o → (h3.push { cls := .type "tuple", data := .seq [c1, c2, c3].toArray }).get? b = some o := fun _ _ z => Heap.get?_push_of_some _ z
    have fl3' := flyZ_keeps fl3 kp
    have up3' : h3.UpToSlots (h3.push { cls := .type "tuple", data := .seq [c1, c2, c3].toArray }) := Heap.UpToSlots.of_keeps kp
    refine (PySem.W.exm_tup3 (J3.kIn.keeps kp) (LT.keeps kp) (Heap.get?_push_size h3 rfl) ex).here ?_
    refine codeAny_handlers_suite_as ?_
    refine HandSPX.lands_againZ fl3' fun h4 fl4 up4 => ?_
    obtain ⟨oe4, vs4, he4, hz4, hd4⟩ := fl4.there
    have S4 := suite_in (s' := ⟨h4, s'.gens, s'.drawn, s'.toks, s'.os⟩) ok J nb fl3.2.1 nfr' fl4.1 (((up.trans up3).trans up3').trans up4) os ag he4 na
    refine store_ok (X := X.suite a (X.pn ++ pins)) (v := .ref a) S4 hN hi (.inl hln) rfl (fun s5 S5 => ?_) (.inr hln)
    refine wpAny_mono ((hsu a (X.pn ++ pins)).run [] s5 _ _ _ S5 (hyes a oe4 J.len na hz4.1 hz4.2 (by unfold PySem.W.notCls; rw [hd4]))) (fun f s6 hsp => ?_) (fun _ _ z => False.elim z)
    have end_ : ∀ {σ6 : L2.St} {H6 : Hp} {Q : Shared → Prop}, Inv (X.suite a (X.pn ++ pins)) [] σ6 H6 s6 → (∀ s7, Inv X pins (σ6.set i none) H6 s7 → Q s7) →
        wpAny (model X.prog X.w) X.A (do bindName X.env n .none; unbindBehindTheSuite X.env n pos') (fun _ s7 => Q s7) X.xe s6 := fun {σ6 H6 Q} S6 hq => gone_ok (suite_out S6 ok) hN hi hln hq
    match f, hsp with
    | .next, ⟨σ6, H6, S6, q6⟩ => exact end_ S6 fun s7 J7 => ⟨_, _, J7, q6⟩
    | .brk, ⟨σ6, H6, S6, q6⟩ => exact end_ S6 fun s7 J7 => ⟨_, _, J7, q6⟩
    | .cont, ⟨σ6, H6, S6, q6⟩ => exact end_ S6 fun s7 J7 => ⟨_, _, J7, q6⟩
    | .ret u, ⟨v6, σ6, H6, S6, r6, q6⟩ => exact end_ S6 fun s7 J7 => ⟨_, _, _, J7, r6, q6⟩
  · match f, hsp with
    | .next, ⟨σ', H', J', q⟩ => exact wpAny_execs_nil ⟨σ', H', J'.ofTry ok, q⟩
    | .brk, ⟨σ', H', J', q⟩ => exact ⟨σ', H', J'.ofTry ok, q⟩
    | .cont, ⟨σ', H', J', q⟩ => exact ⟨σ', H', J'.ofTry ok, q⟩
    | .ret u, ⟨v, σ', H', J', r, q⟩ => exact ⟨v, σ', H', J'.ofTry ok, r, q⟩
end
end Und
/-! texts: what split, partition, startswith, endswith and int make of joined parts -/
namespace Und
open PySem PySem.StrLaws Builtin Builtin.Str
/-- the signs of parts with two signs between -/
def jc (a b : Nat) : List Str → List Nat
  | [] => []
  | x :: r => x.cps.toList ++ (match r with
    | [] => []
    | _ :: _ => a :: b :: jc a b r)
theorem jc_one (a b : Nat) (x : Str) : jc a b [x] = x.cps.toList := by
  show x.cps.toList ++ [] = _
  rw [List.append_nil]
theorem jc_cons (a b : Nat) (x y : Str) (r : List Str) : jc a b (x :: y :: r) = x.cps.toList ++ a :: b :: jc a b (y :: r) := rfl
theorem join_codes (a b : Nat) : ∀ xs : List Str, (Str.join ⟨#[a, b]⟩ xs).cps.toList = jc a b xs
  | [] => rfl
  | [x] => (jc_one a b x).symm
  | x :: y :: r => by
    show ((x ++ ⟨#[a, b]⟩) ++ Str.join ⟨#[a, b]⟩ (y :: r) : Str).cps.toList = _
    rw [PySem.Str.cps_append, PySem.Str.cps_append, Array.toList_append, Array.toList_append, join_codes a b (y :: r), jc_cons]
    simp
theorem join_codes' (a b : Nat) (xs : List Str) : (Txt.join ⟨#[a, b]⟩ xs).cps.toList = jc a b xs := by
  rw [← join_codes, ← glued_eq_join]
  rfl
theorem at_iff {x : Str} {a b k : Nat} : At x ⟨#[a, b]⟩ x.length k ↔ (x.cps.toList.drop k).take 2 = [a, b] := by
  have hl : x.cps.toList.length = x.length := Array.length_toList
  unfold At
  rw [subAt_eq]
  constructor
  · rintro ⟨_, h⟩
    exact eq_of_beq h
  · intro h
    have h2 := congrArg List.length h
    rw [List.length_take, List.length_drop, hl] at h2
    refine ⟨?_, ?_⟩
    · show k + 2 ≤ x.length
      simp at h2
      omega
    · show ((x.cps.toList.drop k).take 2 == [a, b]) = true
      rw [h]
      simp
theorem drop_more {l m : List Nat} {k : Nat} (h : l.drop k = m) (j : Nat) : l.drop (k + j) = m.drop j := by
  rw [← h, List.drop_drop]
/-- where the pieces are joined the cuts are the joints -/
theorem parts_of (a b : Nat) (x : Str) : ∀ (cuts : List Nat) (p : Str) (ps : List Str) (k f : Nat), x.cps.toList.drop k = jc a b (p :: ps) → (∀ z ∈ p :: ps, a ∉ z.cps.toList) → ChainG x ⟨#[a, b]⟩ x.length k cuts f → (∀ j, f ≤ j → ¬ At x ⟨#[a, b]⟩ x.length j) → partsFrom x 2 k cuts = p :: ps
  | [], p, ps, k, f, hd, hz, hc, hn => by
    have hl : x.cps.toList.length = x.length := Array.length_toList
    have e : f = k := hc
    subst e
    cases ps with
    | nil =>
      rw [jc_one] at hd
      show [strSub x f x.length] = [p]
      congr 1
      refine PySem.Str.ext' (Array.toList_inj.mp ?_)
      rw [strSub_toList, hd, List.take_of_length_le]
      have := congrArg List.length hd
      rw [List.length_drop, hl] at this
      omega
    | cons q qs =>
      exfalso
      refine hn (f + p.cps.toList.length) (by omega) (at_iff.mpr ?_)
      rw [drop_more hd, jc_cons, List.drop_left]
      rfl
  | c :: r, p, ps, k, f, hd, hz, hc, hn => by
    have hl : x.cps.toList.length = x.length := Array.length_toList
    obtain ⟨h1, h2, h3, h4⟩ := hc
    obtain ⟨d, rfl⟩ : ∃ d, c = k + d := ⟨c - k, by omega⟩
    have hA := at_iff.mp h2
    rw [drop_more hd] at hA
    have hp := hz p List.mem_cons_self
    -- a sign of the first part is no joint
    have hge : ¬ d < p.cps.toList.length := fun hlt => by
      have : (p.cps.toList.drop d).head? = some a := by
        cases ps with
        | nil =>
          rw [jc_one] at hA
          cases e : p.cps.toList.drop d with
          | nil => rw [e] at hA; cases hA
          | cons u v =>
            rw [e] at hA
            have := List.cons.inj hA
            rw [this.1]
            rfl
        | cons q qs =>
          rw [jc_cons, List.drop_append_of_le_length (by omega)] at hA
          cases e : p.cps.toList.drop d with
          | nil =>
            have := congrArg List.length e
            rw [List.length_drop] at this
            simp at this
            simp at hlt
            omega
          | cons u v =>
            rw [e] at hA
            have := List.cons.inj hA
            rw [this.1]
            rfl
      exact hp (List.mem_of_mem_drop (List.mem_of_mem_head? (by rw [this]; rfl)))
    cases ps with
    | nil =>
      exfalso
      rw [jc_one, List.drop_eq_nil_of_le (by omega)] at hA
      cases hA
    | cons q qs =>
      have hd' : d = p.cps.toList.length := by
        by_cases hgt : p.cps.toList.length < d
        · exfalso
          refine h3 (k + p.cps.toList.length) (by omega) (by omega) (at_iff.mpr ?_)
          rw [drop_more hd, jc_cons, List.drop_left]
          rfl
        · omega
      subst hd'
      have e1 : strSub x k (k + p.cps.toList.length) = p := by
        refine PySem.Str.ext' (Array.toList_inj.mp ?_)
        rw [strSub_toList, hd, jc_cons, show k + p.cps.toList.length - k = p.cps.toList.length from by omega, List.take_left]
      show strSub x k (k + p.cps.toList.length) :: partsFrom x 2 (k + p.cps.toList.length + 2) r = p :: q :: qs
      rw [e1]
      congr 1
      refine parts_of a b x r q qs _ f ?_ (fun z h => hz z (List.mem_cons_of_mem _ h)) h4 hn
      rw [Nat.add_assoc, drop_more hd, jc_cons, ← List.drop_drop, List.drop_left]
      rfl
theorem kind_low (x y : Str) (h : y.cps.all (· < 256) = true) : decide (Builtin.Str.strKind x < Builtin.Str.strKind y) = false := by
  refine decide_eq_false ?_
  unfold Builtin.Str.strKind
  rw [if_pos h]
  split
  · omega
  · split <;> omega
theorem split_join {a b : Nat} (ha : a < 256) (hb : b < 256) (p : Str) (ps : List Str) (hz : ∀ z ∈ p :: ps, a ∉ z.cps.toList) : Txt.split (Txt.join ⟨#[a, b]⟩ (p :: ps)) ⟨#[a, b]⟩ = p :: ps := by
  have hcodes := join_codes' a b (p :: ps)
  generalize hx : Txt.join ⟨#[a, b]⟩ (p :: ps) = x at *
  have hl : x.cps.toList.length = x.length := Array.length_toList
  obtain ⟨f, hc, hn⟩ := occ_tight x ⟨#[a, b]⟩ (by show 1 ≤ 2; omega)
  have key := parts_of a b x _ p ps 0 f (by rw [List.drop_zero]; exact hcodes) hz hc hn
  have e0 : partsFrom x 2 0 [] = [x] := by
    show [strSub x 0 x.length] = [x]
    rw [sub_whole]
  have hk : decide (Builtin.Str.strKind x < Builtin.Str.strKind ⟨#[a, b]⟩) = false := kind_low x _ (by simp [ha, hb])
  unfold Txt.split
  rw [hk, Bool.or_false]
  by_cases h1 : x.length < 2
  · rw [if_pos (decide_eq_true (show x.length < (⟨#[a, b]⟩ : Str).length from h1))]
    cases ps with
    | nil =>
      rw [jc_one] at hcodes
      have : x = p := PySem.Str.ext' (Array.toList_inj.mp hcodes)
      rw [this]
    | cons q qs =>
      exfalso
      have := congrArg List.length hcodes
      rw [jc_cons, List.length_append, hl] at this
      simp at this
      omega
  · rw [if_neg (by
      rw [decide_eq_true_eq]
      exact h1)]
    split
    · rename_i he
      rw [List.isEmpty_iff.mp he] at key
      rw [← key, e0]
    · rw [partsBetween_eq]
      exact key
end Und
/-! places in a line: what moves and repeats of moves make of them -/
namespace Und
/-- so many of the available items move -/
def mvN (am : Option Int) (n : Nat) : Nat := match am with
  | none => n
  | some m => min m.toNat n
abbrev Mv := Bool × Option Int
def mvP (n p : Nat) (m : Mv) : Nat := if m.1 = true then p - mvN m.2 p else p + mvN m.2 (n - p)
def stP (n p : Nat) (ms : List Mv) : Nat := ms.foldl (mvP n) p
def itP (n : Nat) (ms : List Mv) : Nat → Nat → Nat
  | 0, p => p
  | k + 1, p => itP n ms k (stP n p ms)
theorem mvN_le (am : Option Int) (n : Nat) : mvN am n ≤ n := by
  unfold mvN
  split
  · exact Nat.le_refl _
  · exact Nat.min_le_right _ _
theorem mvP_le {n p : Nat} (m : Mv) (h : p ≤ n) : mvP n p m ≤ n := by
  unfold mvP
  split
  · omega
  · have := mvN_le m.2 (n - p)
    omega
theorem stP_le {n : Nat} : ∀ (ms : List Mv) {p : Nat}, p ≤ n → stP n p ms ≤ n
  | [], _, h => h
  | m :: ms, _, h => stP_le ms (mvP_le m h)
theorem itP_le {n : Nat} {ms : List Mv} : ∀ (k : Nat) {p : Nat}, p ≤ n → itP n ms k p ≤ n
  | 0, _, h => h
  | k + 1, _, h => itP_le k (stP_le ms h)
theorem stP_app (n p : Nat) (as bs : List Mv) : stP n p (as ++ bs) = stP n (stP n p as) bs := List.foldl_append
theorem itP_add (n : Nat) (ms : List Mv) : ∀ (a b p : Nat), itP n ms b (itP n ms a p) = itP n ms (a + b) p
  | 0, b, p => by rw [Nat.zero_add]; rfl
  | a + 1, b, p => by
    rw [show a + 1 + b = (a + b) + 1 from by omega]
    exact itP_add n ms a b (stP n p ms)
theorem itP_one (n : Nat) (ms : List Mv) (p : Nat) : itP n ms 1 p = stP n p ms := rfl
theorem itP_succ' (n : Nat) (ms : List Mv) (k p : Nat) : itP n ms (k + 1) p = stP n (itP n ms k p) ms := by
  rw [← itP_add n ms k 1 p]
  rfl
theorem itP_twice (n : Nat) (ms : List Mv) : ∀ (k p : Nat), itP n (ms ++ ms) k p = itP n ms (2 * k) p
  | 0, _ => rfl
  | k + 1, p => by
    rw [show 2 * (k + 1) = (2 * k) + 1 + 1 from by omega]
    show itP n (ms ++ ms) k (stP n p (ms ++ ms)) = itP n ms (2 * k) (stP n (stP n p ms) ms)
    rw [stP_app]
    exact itP_twice n ms k _
/-! ### one round is a shift between two ends -/
def mvS (n : Nat) (m : Mv) : Int := if m.1 = true then -(mvN m.2 n : Int) else (mvN m.2 n : Int)
def stS (n : Nat) (ms : List Mv) : Int := (ms.map (mvS n)).sum
theorem mvP_at {n p : Nat} (m : Mv) (h : p ≤ n) : (mvP n p m : Int) = if m.1 = true then max 0 ((p : Int) - mvN m.2 n) else min (n : Int) ((p : Int) + mvN m.2 n) := by
  unfold mvP
  cases m with
  | mk b am =>
    cases am with
    | none => cases b <;> simp [mvN] <;> omega
    | some a => cases b <;> simp [mvN] <;> omega
theorem mvP_mono {n p q : Nat} (m : Mv) (h : p ≤ q) (hq : q ≤ n) : mvP n p m ≤ mvP n q m := by
  have h1 := mvP_at m (Nat.le_trans h hq)
  have h2 := mvP_at m hq
  split at h1
  · rw [if_pos (by assumption)] at h2
    omega
  · rw [if_neg (by assumption)] at h2
    omega
theorem stP_mono {n : Nat} : ∀ (ms : List Mv) {p q : Nat}, p ≤ q → q ≤ n → stP n p ms ≤ stP n q ms
  | [], _, _, h, _ => h
  | m :: ms, _, _, h, hq => stP_mono ms (mvP_mono m h hq) (mvP_le m hq)
theorem stP_shift {n : Nat} : ∀ (ms : List Mv) {p : Nat}, p ≤ n → (stP n p ms : Int) = max (stP n 0 ms : Int) (min (stP n n ms : Int) ((p : Int) + stS n ms))
  | [], p, h => by
    show (p : Int) = max ((0 : Nat) : Int) (min (n : Int) ((p : Int) + 0))
    omega
  | m :: ms, p, h => by
    have e0 := stP_shift ms (mvP_le m (Nat.zero_le n))
    have en := stP_shift ms (mvP_le m (Nat.le_refl n))
    have ep := stP_shift ms (mvP_le m h)
    have f0 := stP_shift ms (Nat.zero_le n)
    have fn := stP_shift ms (Nat.le_refl n)
    have lo := stP_mono ms (Nat.zero_le n) (Nat.le_refl n)
    have g0 := mvP_at m (Nat.zero_le n)
    have gn := mvP_at m (Nat.le_refl n)
    have gp := mvP_at m h
    have hs : stS n (m :: ms) = mvS n m + stS n ms := by
      unfold stS
      rw [List.map_cons, List.sum_cons]
    show (stP n (mvP n p m) ms : Int) = max (stP n (mvP n 0 m) ms : Int) (min (stP n (mvP n n m) ms : Int) ((p : Int) + stS n (m :: ms)))
    rw [hs]
    have hm := mvN_le m.2 n
    unfold mvS
    split at g0
    · rw [if_pos (by assumption)] at gn gp ⊢
      omega
    · rw [if_neg (by assumption)] at gn gp ⊢
      omega
theorem itP_shift {n : Nat} (ms : List Mv) {p : Nat} (h : p ≤ n) : ∀ k : Nat, (itP n ms (k + 1) p : Int) = max (stP n 0 ms : Int) (min (stP n n ms : Int) ((stP n p ms : Int) + (k : Int) * stS n ms))
  | 0 => by
    rw [itP_one]
    have a := stP_mono ms (Nat.zero_le p) h
    have b := stP_mono ms h (Nat.le_refl n)
    simp only [Int.ofNat_zero, Int.zero_mul, Int.add_zero]
    omega
  | k + 1 => by
    have ih := itP_shift ms h k
    rw [itP_succ']
    have e := stP_shift ms (itP_le (ms := ms) (k + 1) h)
    rw [e, ih]
    have a := stP_mono ms (Nat.zero_le p) h
    have b := stP_mono ms h (Nat.le_refl n)
    have hk : ((k + 1 : Nat) : Int) * stS n ms = (k : Int) * stS n ms + stS n ms := by
      rw [Int.natCast_add, Int.add_mul]
      simp
    rw [hk]
    have s1 : 0 ≤ stS n ms → 0 ≤ (k : Int) * stS n ms := fun z => Int.mul_nonneg (Int.natCast_nonneg k) z
    have s2 : stS n ms ≤ 0 → (k : Int) * stS n ms ≤ 0 := fun z => Int.mul_nonpos_of_nonneg_of_nonpos (Int.natCast_nonneg k) z
    generalize (k : Int) * stS n ms = y at *
    generalize stS n ms = s at *
    omega
/-- what the program works out for a repeat -/
theorem itP_calc {n : Nat} (ms : List Mv) {p : Nat} (h : p ≤ n) {t : Int} (ht : 1 ≤ t) : max (stP n 0 ms : Int) (min (stP n n ms : Int) ((stP n p ms : Int) + (t - 1) * stS n ms)) = (itP n ms t.toNat p : Int) := by
  obtain ⟨k, rfl⟩ : ∃ k : Nat, t = (k : Int) + 1 := ⟨(t - 1).toNat, by omega⟩
  rw [show ((k : Int) + 1).toNat = k + 1 from by omega, itP_shift ms h k]
  rw [show (k : Int) + 1 - 1 = (k : Int) from by omega]
theorem itP_fix {n : Nat} {ms : List Mv} {p : Nat} (h : stP n p ms = p) : ∀ k, itP n ms k p = p
  | 0 => rfl
  | k + 1 => by
    show itP n ms k (stP n p ms) = p
    rw [h]
    exact itP_fix h k
/-! ### a place that comes again stays -/
theorem itP_up {n : Nat} {ms : List Mv} {p : Nat} (hp : p ≤ n) (h : p ≤ stP n p ms) : ∀ k, itP n ms k p ≤ itP n ms (k + 1) p
  | 0 => h
  | k + 1 => by
    rw [itP_succ' n ms k p, itP_succ' n ms (k + 1) p]
    exact stP_mono ms (itP_up hp h k) (itP_le _ hp)
theorem itP_down {n : Nat} {ms : List Mv} {p : Nat} (hp : p ≤ n) (h : stP n p ms ≤ p) : ∀ k, itP n ms (k + 1) p ≤ itP n ms k p
  | 0 => h
  | k + 1 => by
    rw [itP_succ' n ms k p, itP_succ' n ms (k + 1) p]
    exact stP_mono ms (itP_down hp h k) (itP_le _ hp)
theorem up_chain {f : Nat → Nat} (h : ∀ k, f k ≤ f (k + 1)) : ∀ {a b : Nat}, a ≤ b → f a ≤ f b := by
  intro a b hab
  induction b with
  | zero =>
    have : a = 0 := by omega
    rw [this]
    exact Nat.le_refl _
  | succ b ih =>
    by_cases e : a = b + 1
    · rw [e]
      exact Nat.le_refl _
    · exact Nat.le_trans (ih (by omega)) (h b)
theorem down_chain {f : Nat → Nat} (h : ∀ k, f (k + 1) ≤ f k) : ∀ {a b : Nat}, a ≤ b → f b ≤ f a := by
  intro a b hab
  induction b with
  | zero =>
    have : a = 0 := by omega
    rw [this]
    exact Nat.le_refl _
  | succ b ih =>
    by_cases e : a = b + 1
    · rw [e]
      exact Nat.le_refl _
    · exact Nat.le_trans (h b) (ih (by omega))
/-- the place after k + 1 rounds was there before: then it is that after k rounds -/
theorem itP_again {n : Nat} {ms : List Mv} {p k j : Nat} (hp : p ≤ n) (hj : j ≤ k) (e : itP n ms (k + 1) p = itP n ms j p) : itP n ms k p = itP n ms (k + 1) p := by
  by_cases h : p ≤ stP n p ms
  · have u := itP_up hp h
    have a := up_chain (f := fun k => itP n ms k p) u hj
    have b := u k
    have a' : itP n ms j p ≤ itP n ms k p := a
    omega
  · have u := itP_down hp (show stP n p ms ≤ p by omega)
    have a := down_chain (f := fun k => itP n ms k p) u hj
    have b := u k
    have a' : itP n ms k p ≤ itP n ms j p := a
    omega
/-- while no place comes again, each round moves on -/
theorem itP_far {n : Nat} {ms : List Mv} {p : Nat} (hp : p ≤ n) : ∀ k : Nat, (∀ i, i < k → itP n ms (i + 1) p ≠ itP n ms i p) → k ≤ n := by
  by_cases h : p ≤ stP n p ms
  · have u := itP_up hp h
    intro k hk
    have : ∀ i, i ≤ k → p + i ≤ itP n ms i p := by
      intro i
      induction i with
      | zero => intro _; exact Nat.le_refl _
      | succ i ih =>
        intro hi
        have a := ih (by omega)
        have b := u i
        have c := hk i (by omega)
        omega
    have a := this k (Nat.le_refl k)
    have b := itP_le (ms := ms) k hp
    omega
  · have u := itP_down hp (show stP n p ms ≤ p by omega)
    intro k hk
    have : ∀ i, i ≤ k → itP n ms i p + i ≤ p := by
      intro i
      induction i with
      | zero => intro _; exact Nat.le_refl _
      | succ i ih =>
        intro hi
        have a := ih (by omega)
        have b := u i
        have c := hk i (by omega)
        omega
    have a := this k (Nat.le_refl k)
    omega
/-! ### commands -/
open PySem in
def wdM (b : Bool) : Str := if b = true then "undo" else "redo"
inductive Cmd where
  | dd (z : PySem.Str)
  | mv (m : Mv)
  | rep (n : Int) (ms : List Mv)
/-- the place after a command that is no do -/
def cmP (n p : Nat) : Cmd → Nat
  | .dd _ => p
  | .mv m => mvP n p m
  | .rep t ms => itP n ms t.toNat p
def runP (n p : Nat) (cs : List Cmd) : Nat := cs.foldl (cmP n) p
theorem cmP_le {n p : Nat} (c : Cmd) (h : p ≤ n) : cmP n p c ≤ n := by
  cases c with
  | dd z => exact h
  | mv m => exact mvP_le m h
  | rep t ms => exact itP_le _ h
theorem runP_le {n : Nat} : ∀ (cs : List Cmd) {p : Nat}, p ≤ n → runP n p cs ≤ n
  | [], _, h => h
  | c :: cs, _, h => runP_le cs (cmP_le c h)
theorem runP_app (n p : Nat) (as bs : List Cmd) : runP n p (as ++ bs) = runP n (runP n p as) bs := List.foldl_append
def NoDo (cs : List Cmd) : Prop := ∀ z, Cmd.dd z ∉ cs
end Und
namespace Und
open PySem PySem.W PySem.StrLaws PySem.NumText PyProof.Rows Builtin Builtin.Str
/-! ### numbers as texts -/
abbrev nt (n : Int) : Str := Str.ofString (toString n)
theorem nt_signs (m : Nat) : (nt (m : Int)).cps.toList = (Nat.toDigits 10 m).map Char.toNat := PySem.W.KIN.signs_num m
theorem nt_dig (m : Nat) : AllDigits (nt (m : Int)).cps.toList := fun c hc => by
  rw [nt_signs] at hc
  obtain ⟨d, hd, rfl⟩ := List.mem_map.mp hc
  exact digit_range (Nat.isDigit_of_mem_toDigits (by decide) (by decide) hd)
/-- the first sign of a number from 1 on is 1 to 9 -/
theorem nt_first : ∀ m : Nat, 1 ≤ m → ∃ c r, (Nat.toDigits 10 m).map Char.toNat = c :: r ∧ 49 ≤ c ∧ c ≤ 57 := by
  intro m
  induction m using Nat.strongRecOn with
  | _ m ih =>
    intro h1
    by_cases h : m < 10
    · rw [Nat.toDigits_of_lt_base h]
      refine ⟨_, [], rfl, ?_⟩
      have t : ∀ d : Nat, d < 10 → 1 ≤ d → 49 ≤ (Nat.digitChar d).toNat ∧ (Nat.digitChar d).toNat ≤ 57 := by decide
      exact t m h h1
    · obtain ⟨c, r, e, hc⟩ := ih (m / 10) (by omega) (by omega)
      have t := Nat.toDigits_append_toDigits (b := 10) (n := m / 10) (d := m % 10) (by decide) (by omega) (Nat.mod_lt m (by decide))
      rw [Nat.div_add_mod] at t
      rw [← t, List.map_append, e]
      exact ⟨c, _, rfl, hc⟩
theorem nt_len {n : Int} (h0 : 0 ≤ n) (h : n < 10 ^ 500) : (nt n).length ≤ 600 := Nat.le_trans (toString_length_le h0 (by decide) h) (by decide)
theorem nt_reads {n : Int} (h0 : 1 ≤ n) (h1 : n < 10 ^ 500) : PySem.intText? (nt n) = some n := by
  have hl := nt_len (by omega) h1
  obtain ⟨m, rfl⟩ : ∃ m : Nat, n = (m : Int) := ⟨n.toNat, by omega⟩
  obtain ⟨c, r, e, _⟩ := nt_first m (by omega)
  have z := intText_digits (nt_dig m) (by rw [nt_signs, e]; exact List.cons_ne_nil _ _) (by omega)
  rw [nt_signs, PySem.W.KIN.val_back] at z
  exact z
theorem nt_fst {n : Int} (h0 : 1 ≤ n) : ∃ c r, (nt n).cps.toList = c :: r ∧ 49 ≤ c ∧ c ≤ 57 := by
  obtain ⟨m, rfl⟩ : ∃ m : Nat, n = (m : Int) := ⟨n.toNat, by omega⟩
  obtain ⟨c, r, e, h⟩ := nt_first m (by omega)
  exact ⟨c, r, (nt_signs m).trans e, h⟩
theorem nt_all {n : Int} (h0 : 0 ≤ n) : ∀ c ∈ (nt n).cps.toList, 48 ≤ c ∧ c ≤ 57 := by
  obtain ⟨m, rfl⟩ : ∃ m : Nat, n = (m : Int) := ⟨n.toNat, by omega⟩
  exact nt_dig m
theorem digit_table : ∀ c < 58, 48 ≤ c → Unicode.isDigit c = true := by decide +kernel
theorem nt_isdigit {n : Int} (h0 : 1 ≤ n) : Txt.isdigit (nt n) = true := by
  obtain ⟨c, r, e, _⟩ := nt_fst h0
  unfold Txt.isdigit
  have hl : (nt n).length > 0 := by
    rw [← len_codes, e]
    exact Nat.succ_pos _
  rw [decide_eq_true hl, Bool.true_and, ← Array.all_toList, List.all_eq_true]
  exact fun d hd => digit_table d (by have := nt_all (by omega : (0 : Int) ≤ n) d hd; omega) (nt_all (by omega) d hd).1
theorem nt_isascii {n : Int} (h0 : 1 ≤ n) : Txt.isascii (nt n) = true := by
  unfold Txt.isascii
  rw [← Array.all_toList, List.all_eq_true]
  exact fun d hd => decide_eq_true (by have := nt_all (by omega : (0 : Int) ≤ n) d hd; omega)
/-! ### cut at the first space -/
theorem one_at {x : Str} {c i : Nat} : At x ⟨#[c]⟩ x.length i ↔ x.cps.toList[i]? = some c := subAt_one x c i
theorem part_at (c : Nat) (a r : Str) (h : c ∉ a.cps.toList) : Txt.partition (a ++ ⟨#[c]⟩ ++ r) ⟨#[c]⟩ = (a, ⟨#[c]⟩, r) := by
  have hc : (a ++ ⟨#[c]⟩ ++ r : Str).cps.toList = a.cps.toList ++ c :: r.cps.toList := by
    rw [PySem.Str.cps_append, PySem.Str.cps_append, Array.toList_append, Array.toList_append]
    simp
  generalize hx : (a ++ ⟨#[c]⟩ ++ r : Str) = x at *
  have hl : x.cps.toList.length = x.length := Array.length_toList
  have here : At x ⟨#[c]⟩ x.length a.cps.toList.length := one_at.mpr (by rw [hc, List.getElem?_append_right (Nat.le_refl _), Nat.sub_self]; rfl)
  rcases occ_head x ⟨#[c]⟩ 1 (Nat.le_refl 1) with ⟨_, hn⟩ | ⟨i, t, e, hi, hb⟩
  · exact absurd here (hn _)
  · have ei : i = a.cps.toList.length := by
      by_cases h1 : i < a.cps.toList.length
      · exfalso
        have z := one_at.mp hi
        rw [hc, List.getElem?_append_left h1] at z
        exact h (List.mem_of_getElem? z)
      · by_cases h2 : a.cps.toList.length < i
        · exact absurd here (hb _ h2)
        · omega
    unfold Txt.partition
    rw [e]
    subst ei
    show (strSub x 0 a.cps.toList.length, (⟨#[c]⟩ : Str), strSub x (a.cps.toList.length + 1) x.length) = _
    have e1 : strSub x 0 a.cps.toList.length = a := by
      refine PySem.Str.ext' (Array.toList_inj.mp ?_)
      rw [strSub_toList, List.drop_zero, Nat.sub_zero, hc, List.take_left]
    have e2 : strSub x (a.cps.toList.length + 1) x.length = r := by
      refine PySem.Str.ext' (Array.toList_inj.mp ?_)
      rw [strSub_toList, hc, ← List.drop_drop, List.drop_left]
      show List.take _ r.cps.toList = _
      refine List.take_of_length_le ?_
      have := congrArg List.length hc
      rw [List.length_append, List.length_cons, hl] at this
      omega
    rw [e1, e2]
/-- what stands between a beginning and an end -/
theorem mid_cut (p m q : Str) (hq : 1 ≤ q.length) : L2.cutS (p ++ m ++ q) (some (p.length : Int)) (some (-(q.length : Int))) = m := by
  have hc : (p ++ m ++ q : Str).cps.toList = p.cps.toList ++ (m.cps.toList ++ q.cps.toList) := by
    rw [PySem.Str.cps_append, PySem.Str.cps_append, Array.toList_append, Array.toList_append]
    simp
  have hlen : (p ++ m ++ q : Str).length = p.length + m.length + q.length := by rw [PySem.Str.length_append, PySem.Str.length_append]
  refine PySem.Str.ext' (Array.toList_inj.mp ?_)
  unfold L2.cutS
  have i1 : HT.sIx (p ++ m ++ q : Str).length 0 (some (p.length : Int)) = p.length := by
    rw [HT.sIx_nat, hlen]
    omega
  have i2 : HT.sIx (p ++ m ++ q : Str).length (p ++ m ++ q : Str).length (some (-(q.length : Int))) = p.length + m.length := by
    show (if -(q.length : Int) < 0 then _ else _) = _
    rw [if_pos (by omega), hlen]
    omega
  rw [i1, i2, hc]
  show List.take _ (List.drop p.length _) = _
  rw [← len_codes p, List.drop_left, show p.cps.toList.length + m.length - p.cps.toList.length = m.cps.toList.length from by rw [len_codes m]; omega, List.take_left]
theorem nt_log {n : Int} (h0 : 0 ≤ n) (h : n < 10 ^ 500) : n.natAbs.log2 < 1920 := by
  have h1 : n.natAbs < 10 ^ 500 := by
    have e : ((n.natAbs : Nat) : Int) = n := Int.natAbs_of_nonneg h0
    rw [← e] at h
    exact_mod_cast h
  exact PySem.Flt.log2_lt_of (by decide) (Nat.lt_trans h1 (by decide))
end Und
namespace Und
open PySem
/-! the texts of commands and of programs, and what cutting them gives -/
abbrev sp1 : Str := ⟨#[32]⟩
def amT : Option Int → Str
  | none => Str.ofString "all"
  | some n => nt n
def mvT (m : Mv) : Str := wdM m.1 ++ sp1 ++ amT m.2
abbrev sepC : Str := ⟨#[44, 32]⟩
abbrev sepS : Str := ⟨#[59, 32]⟩
abbrev opnT : Str := Str.ofString "times ("
abbrev clsT : Str := Str.ofString ")"
def cmT : Cmd → Str
  | .dd z => Str.ofString "do" ++ sp1 ++ z
  | .mv m => mvT m
  | .rep n ms => nt n ++ sp1 ++ (opnT ++ Txt.join sepC (ms.map mvT) ++ clsT)
def pgT (cs : List Cmd) : Str := match cs with
  | [] => Str.ofString "nothing"
  | _ :: _ => Txt.join sepS (cs.map cmT)
/-- an amount that is one, not too great to be written -/
def AmOk : Option Int → Prop
  | none => True
  | some n => 1 ≤ n ∧ n < 10 ^ 500
def MvOk (m : Mv) : Prop := AmOk m.2
def CmdOk : Cmd → Prop
  | .dd z => IsName z
  | .mv m => MvOk m
  | .rep n ms => 1 ≤ n ∧ n < 10 ^ 500 ∧ ms ≠ [] ∧ ∀ m ∈ ms, MvOk m
/-- x has no sign of the list -/
def Free (bad : List Nat) (x : Str) : Prop := ∀ c ∈ x.cps.toList, c ∉ bad
def freeB (bad : List Nat) (x : Str) : Bool := x.cps.toList.all fun c => !bad.contains c
theorem free_of {bad : List Nat} {x : Str} (h : freeB bad x = true) : Free bad x := fun c hc => by
  have := List.all_eq_true.mp h c hc
  simpa using this
theorem Free.app {bad : List Nat} {x y : Str} (h : Free bad x) (g : Free bad y) : Free bad (x ++ y) := fun c hc => by
  rw [PySem.Str.cps_append, Array.toList_append] at hc
  rcases List.mem_append.mp hc with hc | hc
  · exact h c hc
  · exact g c hc
theorem free_name {z : Str} (h : IsName z) : Free [59, 44, 32, 41] z := fun c hc hb => by
  have := h.low c hc
  simp at hb
  omega
theorem free_nt {n : Int} (h : 0 ≤ n) : Free [59, 44, 32, 41] (nt n) := fun c hc hb => by
  have := nt_all h c hc
  simp at hb
  omega
theorem Free.sub {bad bad' : List Nat} {x : Str} (h : Free bad x) (s : ∀ b ∈ bad', b ∈ bad) : Free bad' x := fun c hc hb => h c hc (s c hb)
theorem free_am {am : Option Int} (h : AmOk am) : Free [59, 44, 32, 41] (amT am) := by
  cases am with
  | none => exact free_of (by decide +kernel)
  | some n => exact free_nt (by have := h.1; omega)
theorem wd_free : ∀ b : Bool, freeB [59, 44, 32] (wdM b) = true := by decide +kernel
theorem free_mv {m : Mv} (h : MvOk m) : Free [59, 44] (mvT m) := by
  exact Free.app (Free.app ((free_of (wd_free m.1)).sub (by simp)) (free_of (by decide +kernel))) ((free_am h).sub (by simp))
theorem free_jc {a b : Nat} {bad : List Nat} (ha : a ∉ bad) (hb : b ∉ bad) : ∀ xs : List Str, (∀ x ∈ xs, Free bad x) → ∀ c ∈ jc a b xs, c ∉ bad
  | [], _, c, hc => by cases hc
  | [x], h, c, hc => by
    rw [jc_one] at hc
    exact h x List.mem_cons_self c hc
  | x :: y :: r, h, c, hc => by
    rw [jc_cons] at hc
    rcases List.mem_append.mp hc with hc | hc
    · exact h x List.mem_cons_self c hc
    · rcases List.mem_cons.mp hc with rfl | hc
      · exact ha
      · rcases List.mem_cons.mp hc with rfl | hc
        · exact hb
        · exact free_jc ha hb (y :: r) (fun z hz => h z (List.mem_cons_of_mem _ hz)) c hc
theorem free_join {bad : List Nat} {a b : Nat} (ha : a ∉ bad) (hb : b ∉ bad) {xs : List Str} (h : ∀ x ∈ xs, Free bad x) : Free bad (Txt.join ⟨#[a, b]⟩ xs) := fun c hc => by
  rw [join_codes'] at hc
  exact free_jc ha hb xs h c hc
theorem free_cm {c : Cmd} (h : CmdOk c) : Free [59] (cmT c) := by
  cases c with
  | dd z => exact Free.app (Free.app (free_of (by decide +kernel)) (free_of (by decide +kernel))) ((free_name h).sub (by simp))
  | mv m => exact (free_mv h).sub (by simp)
  | rep n ms =>
    obtain ⟨h1, h2, h3, h4⟩ := h
    refine Free.app (Free.app ((free_nt (by omega)).sub (by simp)) (free_of (by decide +kernel))) (Free.app (Free.app (free_of (by decide +kernel)) ?_) (free_of (by decide +kernel)))
    refine free_join (by decide) (by decide) fun x hx => ?_
    obtain ⟨m, hm, rfl⟩ := List.mem_map.mp hx
    exact (free_mv (h4 m hm)).sub (by simp)
/-! ### cut -/
theorem cut_prog (c : Cmd) (cs : List Cmd) (h : ∀ x ∈ c :: cs, CmdOk x) : Txt.split (pgT (c :: cs)) sepS = (c :: cs).map cmT :=
  split_join (by decide) (by decide) (cmT c) (cs.map cmT) fun z hz => by
    obtain ⟨x, hx, rfl⟩ := List.mem_map.mp (show z ∈ (c :: cs).map cmT from hz)
    exact fun hm => free_cm (h x hx) 59 hm (by simp)
theorem cut_steps (m : Mv) (ms : List Mv) (h : ∀ x ∈ m :: ms, MvOk x) : Txt.split (Txt.join sepC ((m :: ms).map mvT)) sepC = (m :: ms).map mvT :=
  split_join (by decide) (by decide) (mvT m) (ms.map mvT) fun z hz => by
    obtain ⟨x, hx, rfl⟩ := List.mem_map.mp (show z ∈ (m :: ms).map mvT from hz)
    exact fun hm => free_mv (h x hx) 44 hm (by simp)
theorem part_do {z : Str} : Txt.partition (cmT (.dd z)) sp1 = (Str.ofString "do", sp1, z) := part_at 32 _ _ (by decide +kernel)
theorem part_mv (m : Mv) : Txt.partition (mvT m) sp1 = (wdM m.1, sp1, amT m.2) := part_at 32 _ _ fun hm => free_of (wd_free m.1) 32 hm (by simp)
theorem part_rep {n : Int} (ms : List Mv) (h : 0 ≤ n) : Txt.partition (cmT (.rep n ms)) sp1 = (nt n, sp1, opnT ++ Txt.join sepC (ms.map mvT) ++ clsT) := part_at 32 _ _ fun hm => free_nt h 32 hm (by simp)
theorem opn_len : opnT.length = 7 := by decide +kernel
theorem cls_len : clsT.length = 1 := by decide +kernel
theorem steps_cut (j : Str) : L2.cutS (opnT ++ j ++ clsT) (some 7) (some (-1)) = j := by
  have := mid_cut opnT j clsT (by rw [cls_len]; exact Nat.le_refl 1)
  rw [opn_len, cls_len] at this
  exact this
theorem steps_starts (j : Str) : Txt.startswith (opnT ++ j ++ clsT) opnT = true := by
  rw [PySem.Str.append_assoc]
  exact PySem.W.KT.starts_app _ _
theorem steps_ends (j : Str) : Txt.endswith (opnT ++ j ++ clsT) clsT = true := PySem.W.KT.ends_app _ _
/-- the text of a number is no word -/
theorem nt_word {n : Int} (h : 1 ≤ n) {z : Str} (hz : ∀ c ∈ z.cps.toList.head?, 97 ≤ c) : nt n ≠ z := fun e => by
  obtain ⟨c, r, ec, hc⟩ := nt_fst h
  rw [e] at ec
  have := hz c (by rw [ec]; rfl)
  omega
theorem nt_ne {n : Int} (h : 1 ≤ n) : nt n ≠ Str.ofString "undo" ∧ nt n ≠ Str.ofString "redo" ∧ nt n ≠ Str.ofString "do" ∧ nt n ≠ Str.ofString "all" :=
  ⟨nt_word h (by decide +kernel), nt_word h (by decide +kernel), nt_word h (by decide +kernel), nt_word h (by decide +kernel)⟩
end Und
namespace Und
open PySem
/-! sizes of texts, and how they are put together -/
def Sml (x : Str) : Prop := ∀ c ∈ x.cps.toList, c < 128
theorem Sml.app {x y : Str} (h : Sml x) (g : Sml y) : Sml (x ++ y) := fun c hc => by
  rw [PySem.Str.cps_append, Array.toList_append] at hc
  rcases List.mem_append.mp hc with hc | hc
  · exact h c hc
  · exact g c hc
def smlB (x : Str) : Bool := x.cps.toList.all fun c => decide (c < 128)
theorem sml_of {x : Str} (h : smlB x = true) : Sml x := fun c hc => by
  have := List.all_eq_true.mp h c hc
  simpa using this
theorem sml_nt {n : Int} (h : 0 ≤ n) : Sml (nt n) := fun c hc => by
  have := nt_all h c hc
  omega
theorem sml_jc {a b : Nat} (ha : a < 128) (hb : b < 128) : ∀ xs : List Str, (∀ x ∈ xs, Sml x) → ∀ c ∈ jc a b xs, c < 128
  | [], _, c, hc => by cases hc
  | [x], h, c, hc => by
    rw [jc_one] at hc
    exact h x List.mem_cons_self c hc
  | x :: y :: r, h, c, hc => by
    rw [jc_cons] at hc
    rcases List.mem_append.mp hc with hc | hc
    · exact h x List.mem_cons_self c hc
    · rcases List.mem_cons.mp hc with rfl | hc
      · exact ha
      · rcases List.mem_cons.mp hc with rfl | hc
        · exact hb
        · exact sml_jc ha hb (y :: r) (fun z hz => h z (List.mem_cons_of_mem _ hz)) c hc
theorem sml_wd : ∀ b : Bool, smlB (wdM b) = true := by decide +kernel
theorem sml_mv {m : Mv} (h : MvOk m) : Sml (mvT m) := by
  refine Sml.app (Sml.app (sml_of (sml_wd m.1)) (sml_of (by decide +kernel))) ?_
  obtain ⟨b, am⟩ := m
  cases am with
  | none => exact sml_of (show smlB (Str.ofString "all") = true by decide +kernel)
  | some n => exact sml_nt (by have : 1 ≤ n := h.1; omega)
theorem sml_cm {c : Cmd} (h : CmdOk c) : Sml (cmT c) := by
  cases c with
  | dd z => exact Sml.app (Sml.app (sml_of (by decide +kernel)) (sml_of (by decide +kernel))) fun c hc => by have := h.low c hc; omega
  | mv m => exact sml_mv h
  | rep n ms =>
    obtain ⟨h1, h2, h3, h4⟩ := h
    refine Sml.app (Sml.app (sml_nt (by omega)) (sml_of (by decide +kernel))) (Sml.app (Sml.app (sml_of (by decide +kernel)) fun c hc => ?_) (sml_of (by decide +kernel)))
    rw [join_codes'] at hc
    refine sml_jc (by decide) (by decide) _ (fun x hx => ?_) c hc
    obtain ⟨m, hm, rfl⟩ := List.mem_map.mp hx
    exact sml_mv (h4 m hm)
theorem sml_ok {x : Str} (h : Sml x) : PyData.strOk x = true := by
  unfold PyData.strOk
  rw [Array.all_eq_true_iff_forall_mem]
  intro c hc
  have := h c (by simpa using hc)
  exact decide_eq_true (by omega)
def dStrs (ns : List Str) : PyData := .list (ns.map .str)
theorem dp_strs {K : PySem.W.Frag} {H : L2.Hp} {a : Addr} {ns : List Str} (h : L2.SqL K H a (ns.map L2.V.str)) : L2.Dp K H (.ref a) (dStrs ns) := .lst h (dpAll_strs ns)
theorem dok_strs {ns : List Str} (h : ∀ z ∈ ns, Sml z) : DOk (dStrs ns) 1 := by
  refine ⟨?_, ?_⟩
  · unfold dStrs PyData.canLay0
    exact canAll_strs ns fun z hz => sml_ok (h z hz)
  · unfold dStrs PyData.depth
    rw [depthAll_strs]
    exact Nat.le_refl _
theorem eqv_strs_nil (ns : List Str) : PyData.eqv (dStrs ns) (dStrs []) = decide (ns = []) := by
  cases ns with
  | nil =>
    unfold dStrs
    rw [decide_eq_true rfl]
    simp [PyData.eqv, PyData.eqvAll]
  | cons z r =>
    unfold dStrs
    rw [decide_eq_false (by simp)]
    simp [PyData.eqv, PyData.eqvAll]
/-! ### sizes -/
theorem am_len {am : Option Int} (h : AmOk am) : (amT am).length ≤ 600 := by
  cases am with
  | none => exact (by decide +kernel : (Str.ofString "all").length ≤ 600)
  | some n => exact nt_len (by have := h.1; omega) h.2
theorem wd_len : ∀ b : Bool, (wdM b).length ≤ 4 := by decide +kernel
theorem sp_len : sp1.length = 1 := rfl
theorem mv_len {m : Mv} (h : MvOk m) : (mvT m).length ≤ 605 := by
  have h1 := wd_len m.1
  have h2 := am_len h
  unfold mvT
  rw [PySem.Str.length_append, PySem.Str.length_append, sp_len]
  omega
theorem sum_len {B : Nat} : ∀ (ns : List Str), (∀ z ∈ ns, z.length ≤ B) → (ns.map (·.length)).sum ≤ B * ns.length
  | [], _ => by simp
  | z :: ns, h => by
    have ih := sum_len ns fun y hy => h y (List.mem_cons_of_mem _ hy)
    have hz := h z List.mem_cons_self
    rw [List.map_cons, List.sum_cons, List.length_cons, Nat.mul_succ]
    omega
theorem jc_len {B a b : Nat} : ∀ (xs : List Str), (∀ z ∈ xs, z.length ≤ B) → (jc a b xs).length ≤ (B + 2) * xs.length
  | [], _ => by simp [jc]
  | [x], h => by
    rw [jc_one, len_codes]
    have := h x List.mem_cons_self
    simp
    omega
  | x :: y :: r, h => by
    have ih := jc_len (a := a) (b := b) (y :: r) fun z hz => h z (List.mem_cons_of_mem _ hz)
    have hx := h x List.mem_cons_self
    rw [jc_cons, List.length_append, List.length_cons, List.length_cons, len_codes]
    rw [List.length_cons (a := x), Nat.mul_succ]
    omega
theorem join_len {B a b : Nat} {xs : List Str} (h : ∀ z ∈ xs, z.length ≤ B) : (Txt.join ⟨#[a, b]⟩ xs).length ≤ (B + 2) * xs.length := by
  rw [← len_codes, join_codes']
  exact jc_len xs h
theorem mvs_len {ms : List Mv} (h : ∀ m ∈ ms, MvOk m) : ∀ z ∈ ms.map mvT, z.length ≤ 605 := fun z hz => by
  obtain ⟨m, hm, rfl⟩ := List.mem_map.mp hz
  exact mv_len (h m hm)
/-- few moves in a repeat -/
def CmdSz : Cmd → Prop
  | .rep _ ms => ms.length ≤ 100
  | _ => True
theorem cm_len {c : Cmd} (h : CmdOk c) (hs : CmdSz c) : (cmT c).length ≤ 62000 := by
  cases c with
  | dd z =>
    have h8 := h.hi
    have h2 : (Str.ofString "do").length = 2 := by decide +kernel
    show (Str.ofString "do" ++ sp1 ++ z : Str).length ≤ _
    rw [PySem.Str.length_append, PySem.Str.length_append, sp_len, h2]
    omega
  | mv m => exact Nat.le_trans (mv_len h) (by decide)
  | rep n ms =>
    obtain ⟨h1, h2, h3, h4⟩ := h
    have hl := nt_len (by omega : (0 : Int) ≤ n) h2
    have hj := join_len (a := 44) (b := 32) (mvs_len h4)
    have hm : ms.length ≤ 100 := hs
    rw [List.length_map] at hj
    show (nt n ++ sp1 ++ (opnT ++ Txt.join sepC (ms.map mvT) ++ clsT) : Str).length ≤ _
    rw [PySem.Str.length_append, PySem.Str.length_append, PySem.Str.length_append, PySem.Str.length_append, sp_len, opn_len, cls_len]
    have : (Txt.join sepC (ms.map mvT)).length ≤ 60700 := Nat.le_trans hj (Nat.le_trans (Nat.mul_le_mul_left _ hm) (by decide))
    omega
theorem cms_len {cs : List Cmd} (h : ∀ c ∈ cs, CmdOk c ∧ CmdSz c) : ∀ z ∈ cs.map cmT, z.length ≤ 62000 := fun z hz => by
  obtain ⟨c, hc, rfl⟩ := List.mem_map.mp hz
  exact cm_len (h c hc).1 (h c hc).2
/-! ### put together -/
theorem put_do (z : Str) : Str.ofString "do " ++ z = cmT (.dd z) := by
  show _ = Str.ofString "do" ++ sp1 ++ z
  rw [show Str.ofString "do" ++ sp1 = Str.ofString "do " from by decide +kernel]
theorem put_mv (m : Mv) : wdM m.1 ++ Str.ofString " " ++ amT m.2 = mvT m := by
  rw [show Str.ofString " " = sp1 from by decide +kernel]
  rfl
theorem put_rep (n : Int) (ms : List Mv) : nt n ++ Str.ofString " times (" ++ Txt.join sepC (ms.map mvT) ++ Str.ofString ")" = cmT (.rep n ms) := by
  show _ = nt n ++ sp1 ++ (opnT ++ Txt.join sepC (ms.map mvT) ++ clsT)
  rw [show Str.ofString " times (" = sp1 ++ opnT from by decide +kernel]
  rw [PySem.Str.append_assoc (nt n) sp1, PySem.Str.append_assoc opnT, ← PySem.Str.append_assoc (nt n) sp1 opnT, PySem.Str.append_assoc, PySem.Str.append_assoc, PySem.Str.append_assoc]
end Und
namespace Und
open PySem
/-! different commands have different texts -/
theorem nt_inj {n m : Int} (h1 : 1 ≤ n) (h2 : n < 10 ^ 500) (g1 : 1 ≤ m) (g2 : m < 10 ^ 500) (e : nt n = nt m) : n = m := by
  have a := nt_reads h1 h2
  rw [e, nt_reads g1 g2] at a
  exact (Option.some.inj a).symm
theorem amT_inj {a b : Option Int} (h : AmOk a) (g : AmOk b) (e : amT a = amT b) : a = b := by
  cases a with
  | none =>
    cases b with
    | none => rfl
    | some m => exact absurd e.symm (nt_ne g.1).2.2.2
  | some n =>
    cases b with
    | none => exact absurd e (nt_ne h.1).2.2.2
    | some m => rw [nt_inj h.1 h.2 g.1 g.2 e]
theorem wdM_inj : ∀ {a b : Bool}, wdM a = wdM b → a = b := by decide +kernel
theorem mvT_inj {m k : Mv} (h : MvOk m) (g : MvOk k) (e : mvT m = mvT k) : m = k := by
  have a := part_mv m
  rw [e, part_mv k] at a
  have a1 := (Prod.mk.inj a).1
  have a2 := (Prod.mk.inj (Prod.mk.inj a).2).2
  obtain ⟨b, x⟩ := m
  obtain ⟨c, y⟩ := k
  obtain rfl : c = b := wdM_inj a1
  obtain rfl : y = x := amT_inj g h a2
  rfl
theorem map_mvT_inj : ∀ {ms ks : List Mv}, (∀ m ∈ ms, MvOk m) → (∀ m ∈ ks, MvOk m) → ms.map mvT = ks.map mvT → ms = ks
  | [], [], _, _, _ => rfl
  | [], _ :: _, _, _, e => by simp at e
  | _ :: _, [], _, _, e => by simp at e
  | m :: ms, k :: ks, h, g, e => by
    have e' := List.cons.inj e
    rw [mvT_inj (h m List.mem_cons_self) (g k List.mem_cons_self) e'.1, map_mvT_inj (fun x hx => h x (List.mem_cons_of_mem _ hx)) (fun x hx => g x (List.mem_cons_of_mem _ hx)) e'.2]
def wdC : Cmd → Str
  | .dd _ => Str.ofString "do"
  | .mv m => wdM m.1
  | .rep n _ => nt n
def rsC : Cmd → Str
  | .dd z => z
  | .mv m => amT m.2
  | .rep _ ms => opnT ++ Txt.join sepC (ms.map mvT) ++ clsT
theorem part_cm {c : Cmd} (h : CmdOk c) : Txt.partition (cmT c) sp1 = (wdC c, sp1, rsC c) := by
  cases c with
  | dd z => exact part_do
  | mv m => exact part_mv m
  | rep n ms => exact part_rep ms (by have : 1 ≤ n := h.1; omega)
theorem wd_do : ∀ b : Bool, wdM b ≠ Str.ofString "do" := by decide +kernel
theorem wd_nt {n : Int} (h : 1 ≤ n) (b : Bool) : nt n ≠ wdM b := by
  cases b with
  | true => exact (nt_ne h).1
  | false => exact (nt_ne h).2.1
theorem cmT_inj {c d : Cmd} (h : CmdOk c) (g : CmdOk d) (e : cmT c = cmT d) : c = d := by
  have a := part_cm h
  rw [e, part_cm g] at a
  have a1 : wdC d = wdC c := (Prod.mk.inj a).1
  have a2 : rsC d = rsC c := (Prod.mk.inj (Prod.mk.inj a).2).2
  cases c with
  | dd z =>
    cases d with
    | dd y => rw [show y = z from a2]
    | mv m => exact absurd a1 (wd_do m.1)
    | rep n ms => exact absurd a1 (nt_ne g.1).2.2.1
  | mv m =>
    cases d with
    | dd y => exact absurd a1.symm (wd_do m.1)
    | mv k =>
      obtain ⟨b, x⟩ := m
      obtain ⟨c, y⟩ := k
      obtain rfl : c = b := wdM_inj a1
      obtain rfl : y = x := amT_inj g h a2
      rfl
    | rep n ms => exact absurd a1 (wd_nt g.1 m.1)
  | rep n ms =>
    cases d with
    | dd y => exact absurd a1.symm (nt_ne h.1).2.2.1
    | mv k => exact absurd a1.symm (wd_nt h.1 k.1)
    | rep k ks =>
      obtain ⟨h1, h2, h3, h4⟩ := h
      obtain ⟨g1, g2, g3, g4⟩ := g
      have en := nt_inj g1 g2 h1 h2 a1
      have ej := congrArg (fun x => L2.cutS x (some 7) (some (-1))) a2
      have ej : L2.cutS (opnT ++ Txt.join sepC (ks.map mvT) ++ clsT) (some 7) (some (-1)) = L2.cutS (opnT ++ Txt.join sepC (ms.map mvT) ++ clsT) (some 7) (some (-1)) := ej
      rw [steps_cut, steps_cut] at ej
      obtain ⟨m0, ms0, rfl⟩ := List.exists_cons_of_ne_nil h3
      obtain ⟨k0, ks0, rfl⟩ := List.exists_cons_of_ne_nil g3
      have es := congrArg (fun x => Txt.split x sepC) ej
      have es : Txt.split (Txt.join sepC ((k0 :: ks0).map mvT)) sepC = Txt.split (Txt.join sepC ((m0 :: ms0).map mvT)) sepC := es
      rw [cut_steps m0 ms0 h4, cut_steps k0 ks0 g4] at es
      rw [en, map_mvT_inj g4 h4 es]
end Und
/-! commands as data -/
namespace Und
open PySem PySem.Spec PyProof.Rows L2
def dAm : Option Int → PyData
  | none => .none
  | some k => .int k
def dMv (m : Mv) : PyData := .tuple [.str (wdM m.1), dAm m.2]
def dCm : Cmd → PyData
  | .dd z => .tuple [.str "do", .str z]
  | .mv m => dMv m
  | .rep n ms => .tuple [.str "repeat", .int n, .tuple (ms.map dMv)]
def dCs (cs : List Cmd) : PyData := .tuple (cs.map dCm)
theorem dok_str {z : Str} (h : PyData.strOk z = true) : DOk (.str z) 0 := ⟨by simp [PyData.canLay0, h], by simp [PyData.depth]⟩
theorem dok_int (i : Int) : DOk (.int i) 0 := ⟨by simp [PyData.canLay0], by simp [PyData.depth]⟩
theorem dok_non : DOk .none 0 := ⟨by simp [PyData.canLay0], by simp [PyData.depth]⟩
theorem dok_bool (b : Bool) : DOk (.bool b) 0 := ⟨by simp [PyData.canLay0], by simp [PyData.depth]⟩
theorem dok_am (am : Option Int) : DOk (dAm am) 0 := by
  cases am with
  | none => exact dok_non
  | some k => exact dok_int k
theorem wd_sok : ∀ b : Bool, PyData.strOk (wdM b) = true := by decide +kernel
theorem dok_mv (m : Mv) : DOk (dMv m) 1 := (dok_list (n := 0) fun d hd => by
  rcases List.mem_cons.mp hd with rfl | hd
  · exact dok_str (wd_sok m.1)
  · rw [List.mem_singleton.mp hd]
    exact dok_am m.2).2
theorem dok_cm {c : Cmd} (h : CmdOk c) : DOk (dCm c) 3 := by
  cases c with
  | dd z =>
    refine ((dok_list (n := 0) fun d hd => ?_).2).mono (by decide)
    rcases List.mem_cons.mp hd with rfl | hd
    · exact dok_str (by decide +kernel)
    · rw [List.mem_singleton.mp hd]
      exact dok_str (low_ok (IsName.low h))
  | mv m => exact (dok_mv m).mono (by decide)
  | rep n ms =>
    refine (dok_list (n := 2) fun d hd => ?_).2
    rcases List.mem_cons.mp hd with rfl | hd
    · exact (dok_str (by decide +kernel)).mono (by decide)
    rcases List.mem_cons.mp hd with rfl | hd
    · exact (dok_int n).mono (by decide)
    · rw [List.mem_singleton.mp hd]
      refine (dok_list (n := 1) fun d hd => ?_).2
      obtain ⟨m, _, rfl⟩ := List.mem_map.mp hd
      exact dok_mv m
theorem dok_cs {cs : List Cmd} (h : ∀ c ∈ cs, CmdOk c) : DOk (dCs cs) 4 := (dok_list (n := 3) fun d hd => by
  obtain ⟨c, hc, rfl⟩ := List.mem_map.mp hd
  exact dok_cm (h c hc)).2
/-! ### equal data, equal commands -/
theorem ev_tup (xs ys : List PyData) : PyData.eqv (.tuple xs) (.tuple ys) = PyData.eqvAll xs ys := by
  unfold PyData.eqv
  rfl
theorem ev_cons (x y : PyData) (xs ys : List PyData) : PyData.eqvAll (x :: xs) (y :: ys) = (PyData.eqv x y && PyData.eqvAll xs ys) := by
  conv => lhs; unfold PyData.eqvAll
theorem ev_nil : PyData.eqvAll [] [] = true := by
  unfold PyData.eqvAll
  rfl
theorem ev_nc (y : PyData) (ys : List PyData) : PyData.eqvAll [] (y :: ys) = false := by
  unfold PyData.eqvAll
  rfl
theorem ev_cn (x : PyData) (xs : List PyData) : PyData.eqvAll (x :: xs) [] = false := by
  unfold PyData.eqvAll
  rfl
theorem ev_str (x y : PySem.Str) : PyData.eqv (.str x) (.str y) = (x == y) := by
  unfold PyData.eqv
  rfl
theorem ev_int (x y : Int) : PyData.eqv (.int x) (.int y) = (x == y) := by
  unfold PyData.eqv
  rfl
theorem eqvAll_map {α : Type} {f : α → PyData} : ∀ {xs ys : List α}, (∀ x ∈ xs, ∀ y ∈ ys, PyData.eqv (f x) (f y) = true ↔ x = y) → (PyData.eqvAll (xs.map f) (ys.map f) = true ↔ xs = ys)
  | [], [], _ => by
    rw [List.map_nil, ev_nil]
    exact ⟨fun _ => rfl, fun _ => rfl⟩
  | [], y :: ys, _ => by
    rw [List.map_nil, List.map_cons, ev_nc]
    exact ⟨fun h => (nomatch h), fun h => (nomatch h)⟩
  | x :: xs, [], _ => by
    rw [List.map_nil, List.map_cons, ev_cn]
    exact ⟨fun h => (nomatch h), fun h => (nomatch h)⟩
  | x :: xs, y :: ys, h => by
    have ih := eqvAll_map (f := f) (xs := xs) (ys := ys) fun a ha b hb => h a (List.mem_cons_of_mem _ ha) b (List.mem_cons_of_mem _ hb)
    have h0 := h x List.mem_cons_self y List.mem_cons_self
    rw [List.map_cons, List.map_cons, ev_cons, Bool.and_eq_true, h0, ih, List.cons.injEq]
theorem ev_non : PyData.eqv .none .none = true := by
  unfold PyData.eqv
  rfl
theorem ev_ni (k : Int) : PyData.eqv .none (.int k) = false := by
  unfold PyData.eqv
  rfl
theorem ev_in (k : Int) : PyData.eqv (.int k) .none = false := by
  unfold PyData.eqv
  rfl
theorem eqv_am : ∀ (a b : Option Int), PyData.eqv (dAm a) (dAm b) = true ↔ a = b
  | none, none => ⟨fun _ => rfl, fun _ => ev_non⟩
  | none, some k => ⟨fun h => (nomatch (ev_ni k).symm.trans h), fun h => (nomatch h)⟩
  | some k, none => ⟨fun h => (nomatch (ev_in k).symm.trans h), fun h => (nomatch h)⟩
  | some j, some k => by
    show PyData.eqv (.int j) (.int k) = true ↔ _
    rw [ev_int, beq_iff_eq, Option.some.injEq]
theorem eqv_mv (m k : Mv) : PyData.eqv (dMv m) (dMv k) = true ↔ m = k := by
  obtain ⟨b, am⟩ := m
  obtain ⟨c, an⟩ := k
  have h := eqv_am am an
  unfold dMv
  rw [ev_tup, ev_cons, ev_cons, ev_nil, ev_str, Bool.and_true, Bool.and_eq_true, h, beq_iff_eq, Prod.mk.injEq]
  exact ⟨fun ⟨x, y⟩ => ⟨wdM_inj x, y⟩, fun ⟨x, y⟩ => ⟨by show wdM b = wdM c; rw [show b = c from x], y⟩⟩
theorem eqv_cm (c d : Cmd) : PyData.eqv (dCm c) (dCm d) = true ↔ c = d := by
  have w1 : ∀ b : Bool, (("do" : PySem.Str) == wdM b) = false := by decide +kernel
  have w2 : ∀ b : Bool, (wdM b == ("do" : PySem.Str)) = false := by decide +kernel
  cases c with
  | dd z =>
    cases d with
    | dd y =>
      unfold dCm
      rw [ev_tup, ev_cons, ev_cons, ev_nil, ev_str, ev_str, Bool.and_true, beq_self_eq_true, Bool.true_and, beq_iff_eq, Cmd.dd.injEq]
    | mv k =>
      unfold dCm dMv
      rw [ev_tup, ev_cons, ev_str, w1, Bool.false_and]
      exact ⟨fun h => (nomatch h), fun h => (nomatch h)⟩
    | rep n ms =>
      unfold dCm
      rw [ev_tup, ev_cons, ev_cons, ev_nc, Bool.and_false, Bool.and_false]
      exact ⟨fun h => (nomatch h), fun h => (nomatch h)⟩
  | mv m =>
    cases d with
    | dd y =>
      unfold dCm dMv
      rw [ev_tup, ev_cons, ev_str, w2, Bool.false_and]
      exact ⟨fun h => (nomatch h), fun h => (nomatch h)⟩
    | mv k =>
      rw [Cmd.mv.injEq]
      exact eqv_mv m k
    | rep n ms =>
      unfold dCm dMv
      rw [ev_tup, ev_cons, ev_cons, ev_nc, Bool.and_false, Bool.and_false]
      exact ⟨fun h => (nomatch h), fun h => (nomatch h)⟩
  | rep n ms =>
    cases d with
    | dd y =>
      unfold dCm
      rw [ev_tup, ev_cons, ev_cons, ev_cn, Bool.and_false, Bool.and_false]
      exact ⟨fun h => (nomatch h), fun h => (nomatch h)⟩
    | mv k =>
      unfold dCm dMv
      rw [ev_tup, ev_cons, ev_cons, ev_cn, Bool.and_false, Bool.and_false]
      exact ⟨fun h => (nomatch h), fun h => (nomatch h)⟩
    | rep n' ms' =>
      have h := eqvAll_map (f := dMv) (xs := ms) (ys := ms') fun x _ y _ => eqv_mv x y
      unfold dCm
      rw [ev_tup, ev_cons, ev_cons, ev_cons, ev_nil, ev_str, ev_int, ev_tup, Bool.and_true, beq_self_eq_true, Bool.true_and, Bool.and_eq_true, beq_iff_eq, h, Cmd.rep.injEq]
theorem eqv_cs (cs ds : List Cmd) : PyData.eqv (dCs cs) (dCs ds) = true ↔ cs = ds := by
  have h := eqvAll_map (f := dCm) (xs := cs) (ys := ds) fun x _ y _ => eqv_cm x y
  unfold dCs
  rw [ev_tup]
  exact h
/-! ### how long the texts of commands as data are -/
theorem shw_str8 {z : Str} (h : IsName z) : Shw (.str z) 82 := shw_name h
theorem shw_am {am : Option Int} (h : AmOk am) : Shw (dAm am) 510 := by
  cases am with
  | none => exact ⟨by decide +kernel, by decide +kernel⟩
  | some k => exact shw_int (by have := h.1; omega) (Int.lt_of_lt_of_le h.2 (by decide +kernel))
theorem shw_wd : ∀ b : Bool, Shw (.str (wdM b)) 82 := fun b => shw_name (name_of ((by decide +kernel : ∀ b : Bool, nameB (wdM b) = true) b))
theorem shw_mv {m : Mv} (h : MvOk m) : Shw (dMv m) 1030 := (shw_tuple (n := 510) fun d hd => by
  rcases List.mem_cons.mp hd with rfl | hd
  · exact (shw_wd m.1).mono (by decide)
  · rw [List.mem_singleton.mp hd]
    exact shw_am h).mono (by simp)
/-- repeats have few moves -/
def FewC : Cmd → Prop
  | .rep _ ms => ms.length ≤ 4
  | _ => True
theorem shw_cm {c : Cmd} (h : CmdOk c) (f : FewC c) : Shw (dCm c) 15000 := by
  cases c with
  | dd z =>
    refine (shw_tuple (n := 82) fun d hd => ?_).mono (by simp)
    rcases List.mem_cons.mp hd with rfl | hd
    · exact shw_name (name_of (by decide +kernel))
    · rw [List.mem_singleton.mp hd]
      exact shw_name h
  | mv m => exact (shw_mv h).mono (by decide)
  | rep n ms =>
    obtain ⟨h1, h2, h3, h4⟩ := h
    have f : ms.length ≤ 4 := f
    refine (shw_tuple (n := 4200) fun d hd => ?_).mono (by simp)
    rcases List.mem_cons.mp hd with rfl | hd
    · exact (shw_name (name_of (by decide +kernel))).mono (by decide)
    rcases List.mem_cons.mp hd with rfl | hd
    · exact (shw_int (by omega) (Int.lt_of_lt_of_le h2 (by decide +kernel))).mono (by decide)
    · rw [List.mem_singleton.mp hd]
      refine (shw_tuple (n := 1030) fun d hd => ?_).mono (by rw [List.length_map]; omega)
      obtain ⟨m, hm, rfl⟩ := List.mem_map.mp hd
      exact shw_mv (h4 m hm)
theorem shw_cs {cs : List Cmd} (h : ∀ c ∈ cs, CmdOk c) (f : ∀ c ∈ cs, FewC c) (hl : cs.length ≤ 600) : Shw (dCs cs) 9100000 := (shw_tuple (n := 15000) fun d hd => by
  obtain ⟨c, hc, rfl⟩ := List.mem_map.mp hd
  exact shw_cm (h c hc) (f c hc)).mono (by rw [List.length_map]; omega)
/-! ### texts tell programs apart -/
theorem pgT_inj {cs ds : List Cmd} (h : ∀ c ∈ cs, CmdOk c) (g : ∀ c ∈ ds, CmdOk c) (hn : ∀ c ds, (∀ x ∈ c :: ds, CmdOk x) → pgT (c :: ds) ≠ Str.ofString "nothing") (e : pgT cs = pgT ds) : cs = ds := by
  cases cs with
  | nil =>
    cases ds with
    | nil => rfl
    | cons d ds => exact absurd e.symm (hn d ds g)
  | cons c cs =>
    cases ds with
    | nil => exact absurd e (hn c cs h)
    | cons d ds =>
      have a := cut_prog c cs h
      rw [e, cut_prog d ds g] at a
      have : ∀ {xs ys : List Cmd}, (∀ x ∈ xs, CmdOk x) → (∀ x ∈ ys, CmdOk x) → xs.map cmT = ys.map cmT → xs = ys := by
        intro xs
        induction xs with
        | nil =>
          intro ys _ _ e
          cases ys with
          | nil => rfl
          | cons y ys => simp at e
        | cons x xs ih =>
          intro ys h g e
          cases ys with
          | nil => simp at e
          | cons y ys =>
            rw [List.map_cons, List.map_cons, List.cons.injEq] at e
            rw [cmT_inj (h x List.mem_cons_self) (g y List.mem_cons_self) e.1, ih (fun z hz => h z (List.mem_cons_of_mem _ hz)) (fun z hz => g z (List.mem_cons_of_mem _ hz)) e.2]
      exact this h g a.symm
end Und
/-! what a program leaves of a past of some length, and of one that is longer by one -/
namespace Und
/-- old items kept, the dos whose items are kept, the items in the past, the dos so far -/
structure LS where
  k : Nat
  D : List Nat
  p : Nat
  i : Nat
def LS.size (s : LS) : Nat := s.k + s.D.length
def LS.cm (s : LS) (c : Cmd) : LS := match c with
  | .dd _ => ⟨min s.k s.p, s.D.take (s.p - min s.k s.p) ++ [s.i], s.p + 1, s.i + 1⟩
  | .mv m => ⟨s.k, s.D, mvP s.size s.p m, s.i⟩
  | .rep t ms => ⟨s.k, s.D, itP s.size ms t.toNat s.p, s.i⟩
def lsOf (n : Nat) (cs : List Cmd) : LS := cs.foldl LS.cm ⟨n, [], n, 0⟩
theorem lsOf_app (n : Nat) (as bs : List Cmd) : lsOf n (as ++ bs) = bs.foldl LS.cm (lsOf n as) := List.foldl_append
theorem LS.ok_cm {s : LS} (h : s.p ≤ s.size) (c : Cmd) : (s.cm c).p ≤ (s.cm c).size := by
  cases c with
  | dd z =>
    show s.p + 1 ≤ min s.k s.p + (s.D.take (s.p - min s.k s.p) ++ [s.i]).length
    rw [List.length_append, List.length_take]
    unfold LS.size at h
    simp
    omega
  | mv m => exact mvP_le m h
  | rep t ms => exact itP_le _ h
theorem LS.ok_run : ∀ (cs : List Cmd) {s : LS}, s.p ≤ s.size → (cs.foldl LS.cm s).p ≤ (cs.foldl LS.cm s).size
  | [], _, h => h
  | c :: cs, _, h => LS.ok_run cs (LS.ok_cm h c)
/-! ### one item more -/
theorem mvP_near {n p q : Nat} (m : Mv) (hp : p ≤ n) (h : q = p ∨ q = p + 1) : mvP (n + 1) q m = mvP n p m ∨ mvP (n + 1) q m = mvP n p m + 1 := by
  unfold mvP
  obtain ⟨b, am⟩ := m
  cases am with
  | none => cases b <;> simp [mvN] <;> omega
  | some a => cases b <;> simp [mvN] <;> omega
theorem stP_near {n : Nat} : ∀ (ms : List Mv) {p q : Nat}, p ≤ n → (q = p ∨ q = p + 1) → stP (n + 1) q ms = stP n p ms ∨ stP (n + 1) q ms = stP n p ms + 1
  | [], _, _, _, h => h
  | m :: ms, _, _, hp, h => stP_near ms (mvP_le m hp) (mvP_near m hp h)
theorem itP_near {n : Nat} {ms : List Mv} : ∀ (k : Nat) {p q : Nat}, p ≤ n → (q = p ∨ q = p + 1) → itP (n + 1) ms k q = itP n ms k p ∨ itP (n + 1) ms k q = itP n ms k p + 1
  | 0, _, _, _, h => h
  | k + 1, _, _, hp, h => itP_near k (stP_le ms hp) (stP_near ms hp h)
/-- how the longer run stands to the shorter one -/
inductive Near (s t : LS) : Prop where
  | more (hk : t.k = s.k + 1) (hD : t.D = s.D) (hp : t.p = s.p ∨ t.p = s.p + 1)
  | same (hk : t.k = s.k) (hD : t.D = s.D) (hp : t.p = s.p)
  | less (hk : t.k = s.k + 1) (j : Nat) (hj : j + 1 < s.D.length) (hD : t.D = s.D.eraseIdx j) (hp : t.p = s.p)
theorem take_erase (D : List Nat) (j m : Nat) (h : j < m) (hm : m ≤ D.length) : (D.eraseIdx j).take (m - 1) = (D.take m).eraseIdx j := by
  apply List.ext_getElem?
  intro i
  rw [List.getElem?_take, List.getElem?_eraseIdx, List.getElem?_eraseIdx, List.getElem?_take, List.getElem?_take]
  by_cases h1 : i < m - 1
  · rw [if_pos h1]
    by_cases h2 : i < j
    · rw [if_pos h2, if_pos h2, if_pos (by omega)]
    · rw [if_neg h2, if_neg h2, if_pos (by omega)]
  · rw [if_neg h1]
    by_cases h2 : i < j
    · omega
    · rw [if_neg h2, if_neg (by omega)]
theorem take_erase2 (D : List Nat) (j m : Nat) (h : m ≤ j) (h0 : 1 ≤ m) (hm : m ≤ D.length) : (D.eraseIdx j).take (m - 1) = (D.take m).eraseIdx (m - 1) := by
  apply List.ext_getElem?
  intro i
  rw [List.getElem?_take, List.getElem?_eraseIdx, List.getElem?_eraseIdx, List.getElem?_take, List.getElem?_take]
  by_cases h1 : i < m - 1
  · rw [if_pos h1, if_pos (by omega), if_pos h1, if_pos (by omega)]
  · rw [if_neg h1, if_neg h1, if_neg (by omega)]
theorem erase_app {D : List Nat} {j x : Nat} (h : j < D.length) : (D ++ [x]).eraseIdx j = D.eraseIdx j ++ [x] := List.eraseIdx_append_of_lt_length h _
theorem Near.cm {s t : LS} (hs : s.p ≤ s.size) (hi : t.i = s.i) (h : Near s t) (c : Cmd) : Near (s.cm c) (t.cm c) := by
  cases h with
  | more hk hD hp =>
    have hz : t.size = s.size + 1 := by
      unfold LS.size
      rw [hk, hD]
      omega
    cases c with
    | mv m =>
      refine .more hk hD ?_
      show mvP t.size t.p m = _ ∨ mvP t.size t.p m = _
      rw [hz]
      exact mvP_near m hs hp
    | rep n ms =>
      refine .more hk hD ?_
      show itP t.size ms n.toNat t.p = _ ∨ itP t.size ms n.toNat t.p = _
      rw [hz]
      exact itP_near _ hs hp
    | dd z =>
      rcases hp with hp | hp
      · by_cases hle : s.p ≤ s.k
        · refine .same ?_ ?_ ?_
          · show min t.k t.p = min s.k s.p
            omega
          · show t.D.take (t.p - min t.k t.p) ++ [t.i] = s.D.take (s.p - min s.k s.p) ++ [s.i]
            rw [hD, hi, show t.p - min t.k t.p = 0 from by omega, show s.p - min s.k s.p = 0 from by omega]
          · show t.p + 1 = s.p + 1
            omega
        · unfold LS.size at hs
          refine .less ?_ (s.p - s.k - 1) ?_ ?_ ?_
          · show min t.k t.p = min s.k s.p + 1
            omega
          · show s.p - s.k - 1 + 1 < (s.D.take (s.p - min s.k s.p) ++ [s.i]).length
            rw [List.length_append, List.length_take]
            simp
            omega
          · show t.D.take (t.p - min t.k t.p) ++ [t.i] = (s.D.take (s.p - min s.k s.p) ++ [s.i]).eraseIdx (s.p - s.k - 1)
            rw [hD, hi, show t.p - min t.k t.p = s.p - s.k - 1 from by omega, show s.p - min s.k s.p = s.p - s.k from by omega]
            rw [erase_app (by rw [List.length_take]; omega)]
            congr 1
            rw [← take_erase2 s.D (s.p - s.k) (s.p - s.k) (Nat.le_refl _) (by omega) (by omega)]
            apply List.ext_getElem?
            intro i
            rw [List.getElem?_take, List.getElem?_take, List.getElem?_eraseIdx]
            by_cases h1 : i < s.p - s.k - 1
            · rw [if_pos h1, if_pos h1, if_pos (by omega)]
            · rw [if_neg h1, if_neg h1]
          · show t.p + 1 = s.p + 1
            omega
      · refine .more ?_ ?_ ?_
        · show min t.k t.p = min s.k s.p + 1
          omega
        · show t.D.take (t.p - min t.k t.p) ++ [t.i] = s.D.take (s.p - min s.k s.p) ++ [s.i]
          rw [hD, hi, show t.p - min t.k t.p = s.p - min s.k s.p from by omega]
        · right
          show t.p + 1 = s.p + 1 + 1
          omega
  | same hk hD hp =>
    have hz : t.size = s.size := by
      unfold LS.size
      rw [hk, hD]
    have e : t = ⟨s.k, s.D, s.p, t.i⟩ := by
      cases t
      simp_all
    rw [e, hi]
    exact .same rfl rfl rfl
  | less hk j hj hD hp =>
    have hl : t.D.length = s.D.length - 1 := by
      rw [hD, List.length_eraseIdx, if_pos (by omega)]
    have hz : t.size = s.size := by
      unfold LS.size
      rw [hk, hl]
      omega
    cases c with
    | mv m =>
      refine .less hk j hj hD ?_
      show mvP t.size t.p m = mvP s.size s.p m
      rw [hz, hp]
    | rep n ms =>
      refine .less hk j hj hD ?_
      show itP t.size ms n.toNat t.p = itP s.size ms n.toNat s.p
      rw [hz, hp]
    | dd z =>
      by_cases hle : s.p ≤ s.k
      · refine .same ?_ ?_ ?_
        · show min t.k t.p = min s.k s.p
          omega
        · show t.D.take (t.p - min t.k t.p) ++ [t.i] = s.D.take (s.p - min s.k s.p) ++ [s.i]
          rw [hi, show t.p - min t.k t.p = 0 from by omega, show s.p - min s.k s.p = 0 from by omega]
          rfl
        · show t.p + 1 = s.p + 1
          omega
      · unfold LS.size at hs
        by_cases hjm : j < s.p - s.k
        · refine .less ?_ j ?_ ?_ ?_
          · show min t.k t.p = min s.k s.p + 1
            omega
          · show j + 1 < (s.D.take (s.p - min s.k s.p) ++ [s.i]).length
            rw [List.length_append, List.length_take]
            simp
            omega
          · show t.D.take (t.p - min t.k t.p) ++ [t.i] = (s.D.take (s.p - min s.k s.p) ++ [s.i]).eraseIdx j
            rw [hD, hi, show t.p - min t.k t.p = s.p - s.k - 1 from by omega, show s.p - min s.k s.p = s.p - s.k from by omega]
            rw [erase_app (by rw [List.length_take]; omega), take_erase s.D j _ hjm (by omega)]
          · show t.p + 1 = s.p + 1
            omega
        · refine .less ?_ (s.p - s.k - 1) ?_ ?_ ?_
          · show min t.k t.p = min s.k s.p + 1
            omega
          · show s.p - s.k - 1 + 1 < (s.D.take (s.p - min s.k s.p) ++ [s.i]).length
            rw [List.length_append, List.length_take]
            simp
            omega
          · show t.D.take (t.p - min t.k t.p) ++ [t.i] = (s.D.take (s.p - min s.k s.p) ++ [s.i]).eraseIdx (s.p - s.k - 1)
            rw [hD, hi, show t.p - min t.k t.p = s.p - s.k - 1 from by omega, show s.p - min s.k s.p = s.p - s.k from by omega]
            rw [erase_app (by rw [List.length_take]; omega), take_erase2 s.D j _ (by omega) (by omega) (by omega)]
          · show t.p + 1 = s.p + 1
            omega
theorem LS.i_cm (s t : LS) (h : t.i = s.i) (c : Cmd) : (t.cm c).i = (s.cm c).i := by
  cases c with
  | dd z =>
    show t.i + 1 = s.i + 1
    rw [h]
  | mv m => exact h
  | rep n ms => exact h
theorem near_run : ∀ (cs : List Cmd) {s t : LS}, s.p ≤ s.size → t.i = s.i → Near s t → Near (cs.foldl LS.cm s) (cs.foldl LS.cm t)
  | [], _, _, _, _, h => h
  | c :: cs, s, t, hs, hi, h => near_run cs (LS.ok_cm hs c) (LS.i_cm s t hi c) (h.cm hs hi c)
/-- the outcome for one item more comes of the outcome in one of four ways -/
theorem near_of (n : Nat) (cs : List Cmd) : Near (lsOf n cs) (lsOf (n + 1) cs) := near_run cs (Nat.le_add_right _ _) rfl (.more rfl rfl (.inr rfl))
end Und
/-! outcomes and words, as numbers and names -/
namespace Und
open PySem
def doN : List Cmd → List Str
  | [] => []
  | .dd z :: cs => z :: doN cs
  | .mv _ :: cs => doN cs
  | .rep _ _ :: cs => doN cs
theorem doN_app : ∀ as bs : List Cmd, doN (as ++ bs) = doN as ++ doN bs
  | [], _ => rfl
  | .dd z :: as, bs => by rw [List.cons_append, doN, doN, doN_app as bs, List.cons_append]
  | .mv _ :: as, bs => by rw [List.cons_append, doN, doN, doN_app as bs]
  | .rep _ _ :: as, bs => by rw [List.cons_append, doN, doN, doN_app as bs]
theorem doN_len : ∀ cs : List Cmd, (doN cs).length ≤ cs.length
  | [] => Nat.le_refl _
  | .dd z :: cs => Nat.succ_le_succ (doN_len cs)
  | .mv _ :: cs => Nat.le_succ_of_le (doN_len cs)
  | .rep _ _ :: cs => Nat.le_succ_of_le (doN_len cs)
theorem doN_name : ∀ {cs : List Cmd}, (∀ c ∈ cs, CmdOk c) → ∀ z ∈ doN cs, IsName z
  | [], _, z, hz => by cases hz
  | .dd y :: cs, h, z, hz => by
    rcases List.mem_cons.mp hz with rfl | hz
    · exact h (.dd z) List.mem_cons_self
    · exact doN_name (fun c hc => h c (List.mem_cons_of_mem _ hc)) z hz
  | .mv _ :: cs, h, z, hz => doN_name (fun c hc => h c (List.mem_cons_of_mem _ hc)) z hz
  | .rep _ _ :: cs, h, z, hz => doN_name (fun c hc => h c (List.mem_cons_of_mem _ hc)) z hz
/-- a state that can be -/
structure LS.Ok (s : LS) : Prop where
  p : s.p ≤ s.size
  D : ∀ j ∈ s.D, j < s.i
  asc : s.D.Pairwise (· < ·)
theorem LS.Ok.cm {s : LS} (h : s.Ok) (c : Cmd) : (s.cm c).Ok := by
  refine ⟨LS.ok_cm h.p c, ?_, ?_⟩
  · cases c with
    | dd z =>
      intro j hj
      show j < s.i + 1
      rcases List.mem_append.mp hj with hj | hj
      · have := h.D j (List.mem_of_mem_take hj)
        omega
      · have : j = s.i := by simpa using hj
        omega
    | mv m => exact h.D
    | rep t ms => exact h.D
  · cases c with
    | dd z =>
      show (s.D.take (s.p - min s.k s.p) ++ [s.i]).Pairwise (· < ·)
      rw [List.pairwise_append]
      refine ⟨h.asc.sublist (List.take_sublist _ _), List.pairwise_singleton _ _, fun a ha b hb => ?_⟩
      have := h.D a (List.mem_of_mem_take ha)
      have : b = s.i := by simpa using hb
      omega
    | mv m => exact h.asc
    | rep t ms => exact h.asc
theorem LS.Ok.run : ∀ (cs : List Cmd) {s : LS}, s.Ok → (cs.foldl LS.cm s).Ok
  | [], _, h => h
  | c :: cs, _, h => LS.Ok.run cs (h.cm c)
theorem ls_ok (n : Nat) (cs : List Cmd) : (lsOf n cs).Ok := LS.Ok.run cs ⟨Nat.le_add_right _ _, (fun j hj => nomatch hj), List.Pairwise.nil⟩
theorem asc_len' : ∀ (l : List Nat) (lo i : Nat), l.Pairwise (· < ·) → (∀ j ∈ l, lo ≤ j ∧ j < i) → l.length ≤ i - lo
  | [], _, _, _, _ => Nat.zero_le _
  | x :: r, lo, i, h, g => by
    have hx := g x List.mem_cons_self
    have h' := List.pairwise_cons.mp h
    have ih := asc_len' r (x + 1) i h'.2 fun j hj => ⟨h'.1 j hj, (g j (List.mem_cons_of_mem _ hj)).2⟩
    rw [List.length_cons]
    omega
theorem asc_len {l : List Nat} {i : Nat} (h : l.Pairwise (· < ·)) (g : ∀ j ∈ l, j < i) : l.length ≤ i := asc_len' l 0 i h fun j hj => ⟨Nat.zero_le _, g j hj⟩
theorem LS.size_cm {s : LS} (h : s.p ≤ s.size) (c : Cmd) : (s.cm c).size ≤ s.size + 1 := by
  cases c with
  | dd z =>
    show min s.k s.p + (s.D.take (s.p - min s.k s.p) ++ [s.i]).length ≤ s.k + s.D.length + 1
    rw [List.length_append, List.length_take]
    unfold LS.size at h
    simp
    omega
  | mv m => exact Nat.le_succ _
  | rep t ms => exact Nat.le_succ _
theorem LS.size_run : ∀ (cs : List Cmd) {s : LS}, s.p ≤ s.size → (cs.foldl LS.cm s).size ≤ s.size + cs.length
  | [], _, _ => Nat.le_refl _
  | c :: cs, s, h => by
    have a := LS.size_run cs (LS.ok_cm h c)
    have b := LS.size_cm h c
    rw [List.length_cons]
    show (cs.foldl LS.cm (s.cm c)).size ≤ _
    omega
theorem ls_size (n : Nat) (cs : List Cmd) : (lsOf n cs).size ≤ n + cs.length := LS.size_run cs (Nat.le_add_right _ _)
theorem ls_snoc (n : Nat) (cs : List Cmd) (c : Cmd) : lsOf n (cs ++ [c]) = (lsOf n cs).cm c := lsOf_app n cs [c]
theorem LS.i_run : ∀ (cs : List Cmd) (s : LS), (cs.foldl LS.cm s).i = s.i + (doN cs).length
  | [], _ => rfl
  | .dd z :: cs, s => by
    rw [List.foldl_cons, LS.i_run cs]
    show s.i + 1 + _ = s.i + ((doN cs).length + 1)
    omega
  | .mv m :: cs, s => by
    rw [List.foldl_cons, LS.i_run cs]
    rfl
  | .rep t ms :: cs, s => by
    rw [List.foldl_cons, LS.i_run cs]
    rfl
theorem ls_i (n : Nat) (cs : List Cmd) : (lsOf n cs).i = (doN cs).length := by
  rw [lsOf, LS.i_run]
  exact Nat.zero_add _
def LS.u (s : LS) : Nat := s.size - s.p
/-- the names of the items that are kept -/
def itN (n : Nat) (cs : List Cmd) : List Str := (lsOf n cs).D.map fun j => (doN cs).getD j Str.empty
theorem ls_at {n : Nat} {cs : List Cmd} {j : Nat} (h : j ∈ (lsOf n cs).D) : (doN cs)[j]? = some ((doN cs).getD j Str.empty) := by
  have h1 := (ls_ok n cs).D j h
  rw [ls_i] at h1
  rw [List.getElem?_eq_getElem h1, List.getD_eq_getElem?_getD, List.getElem?_eq_getElem h1]
  rfl
def wordOf (n : Nat) (cs : List Cmd) : Str :=
  if (lsOf (n + 1) cs).k = (lsOf n cs).k then "old" else if (lsOf (n + 1) cs).D.length < (lsOf n cs).D.length then "item" else if (lsOf n cs).u < (lsOf (n + 1) cs).u then "undone" else "keep"
/-- the head of a command -/
def cw : Cmd → Str
  | .dd _ => "do"
  | .mv m => wdM m.1
  | .rep _ _ => "repeat"
theorem cw_do : ∀ c : Cmd, (∀ z, c ≠ .dd z) → cw c ≠ "do"
  | .dd z, h => (h z rfl).elim
  | .mv m, _ => (by decide +kernel : ∀ b : Bool, wdM b ≠ "do") m.1
  | .rep _ _, _ => (by decide +kernel : ("repeat" : Str) ≠ "do")
end Und
/-! what a program tells, as data -/
namespace Und
open PySem PySem.Spec PyProof.Rows L2
section
variable {K : PySem.W.Frag} {H H' : Hp}
mutual
theorem dp_mono (s : Same H H') : ∀ (d : PyData) (v : V), Dp K H v d → Dp K H' v d
  | .none, _, h => by
    cases h
    exact .non
  | .bool b, _, h => by
    cases h
    exact .bl b
  | .int i, _, h => by
    cases h
    exact .int i
  | .str x, _, h => by
    cases h
    exact .str x
  | .list ds, _, h => by
    cases h with
    | lst a b => exact .lst (s.seq a) (dpAll_mono s ds _ b)
  | .tuple ds, _, h => by
    cases h with
    | tup a b => exact .tup (same_seqT s a) (dpAll_mono s ds _ b)
  | .dict _, _, h => by cases h
theorem dpAll_mono (s : Same H H') : ∀ (ds : List PyData) (vs : List V), DpAll K H vs ds → DpAll K H' vs ds
  | [], _, h => by
    cases h
    exact .nil
  | d :: ds, _, h => by
    cases h with
    | cons a b => exact .cons (dp_mono s d _ a) (dpAll_mono s ds _ b)
end
theorem Dp.mono {d : PyData} {v : V} (s : Same H H') (h : Dp K H v d) : Dp K H' v d := dp_mono s d v h
end
theorem sml_pg {cs : List Cmd} (h : ∀ c ∈ cs, CmdOk c) : Sml (pgT cs) := by
  cases cs with
  | nil => exact sml_of (by decide +kernel)
  | cons c cs =>
    intro x hx
    change x ∈ (Txt.join sepS ((c :: cs).map cmT)).cps.toList at hx
    rw [join_codes'] at hx
    refine sml_jc (by decide) (by decide) _ (fun z hz => ?_) x hx
    obtain ⟨d, hd, rfl⟩ := List.mem_map.mp hz
    exact sml_cm (h d hd)
theorem cm_lenF {c : Cmd} (h : CmdOk c) (f : FewC c) : (cmT c).length ≤ 4000 := by
  cases c with
  | dd z =>
    have h8 := h.hi
    have h2 : (Str.ofString "do").length = 2 := by decide +kernel
    show (Str.ofString "do" ++ sp1 ++ z : Str).length ≤ _
    rw [PySem.Str.length_append, PySem.Str.length_append, sp_len, h2]
    omega
  | mv m => exact Nat.le_trans (mv_len h) (by decide)
  | rep n ms =>
    obtain ⟨h1, h2, h3, h4⟩ := h
    have hl := nt_len (by omega : (0 : Int) ≤ n) h2
    have hj := join_len (a := 44) (b := 32) (mvs_len h4)
    have hm : ms.length ≤ 4 := f
    rw [List.length_map] at hj
    show (nt n ++ sp1 ++ (opnT ++ Txt.join sepC (ms.map mvT) ++ clsT) : Str).length ≤ _
    rw [PySem.Str.length_append, PySem.Str.length_append, PySem.Str.length_append, PySem.Str.length_append, sp_len, opn_len, cls_len]
    have : (Txt.join sepC (ms.map mvT)).length ≤ 2428 := Nat.le_trans hj (Nat.le_trans (Nat.mul_le_mul_left _ hm) (by decide))
    omega
theorem pg_lenF {cs : List Cmd} (h : ∀ c ∈ cs, CmdOk c) (f : ∀ c ∈ cs, FewC c) : (pgT cs).length ≤ 4002 * cs.length + 7 := by
  cases cs with
  | nil => exact (by decide +kernel : (Str.ofString "nothing").length ≤ 7)
  | cons c cs =>
    have := join_len (a := 59) (b := 32) (B := 4000) (xs := (c :: cs).map cmT) fun z hz => by
      obtain ⟨d, hd, rfl⟩ := List.mem_map.mp hz
      exact cm_lenF (h d hd) (f d hd)
    rw [List.length_map] at this
    exact Nat.le_trans this (by omega)
theorem shw_txt {x : Str} {n : Nat} (h : Sml x) (hl : x.length ≤ n) : Shw (.str x) (10 * n + 2) := by
  refine ⟨by rw [PyData.showable], ?_⟩
  rw [PyData.shown]
  have h1 := PySem.StrLaws.reprText_len x (fun c hc => Nat.lt_trans (h c hc) (by decide))
  omega
theorem shw_bool (b : Bool) : Shw (.bool b) 5 := by
  refine ⟨by rw [PyData.showable], ?_⟩
  rw [PyData.shown]
  cases b <;> decide
theorem textFrom_sum : ∀ (ts : List Str) (k : Nat) (acc : Str), (textFrom k acc ts).length ≤ acc.length + (ts.map fun t => t.length + 2).sum
  | [], _, _ => Nat.le_add_right _ _
  | t :: r, k, acc => by
    have ih := textFrom_sum r (k + 1) (acc ++ (if k > 0 then ", " else "" : String) ++ t)
    have e : (acc ++ (if k > 0 then ", " else "" : String) ++ t).length ≤ acc.length + 2 + t.length := by
      rw [PySem.Str.length_append, PySem.Str.length_append]
      have : (((if k > 0 then ", " else "" : String)) : Str).length ≤ 2 := by split <;> decide
      omega
    rw [List.map_cons, List.sum_cons]
    show (textFrom (k + 1) (acc ++ (if k > 0 then ", " else "" : String) ++ t) r).length ≤ _
    omega
theorem shw_list6 {a b c d e f : PyData} {na nb nc nd ne nf : Nat} (ha : Shw a na) (hb : Shw b nb) (hc : Shw c nc) (hd : Shw d nd) (he : Shw e ne) (hf : Shw f nf) : Shw (.list [a, b, c, d, e, f]) (na + nb + nc + nd + ne + nf + 14) := by
  refine ⟨?_, ?_⟩
  · simp only [PyData.showable, PyData.showableAll, ha.1, hb.1, hc.1, hd.1, he.1, hf.1, Bool.and_true, Bool.and_self]
  rw [PyData.shown]
  have h := textFrom_sum (PyData.shownAll [a, b, c, d, e, f]) 0 "["
  have ex : PyData.shownAll [a, b, c, d, e, f] = [a.shown, b.shown, c.shown, d.shown, e.shown, f.shown] := by simp only [PyData.shownAll]
  rw [ex] at h ⊢
  simp only [List.map_cons, List.map_nil, List.sum_cons, List.sum_nil] at h
  unfold listText
  have e1 : ((("[" : String) : Str)).length = 1 := rfl
  have e3 : ((("]" : String) : Str)).length = 1 := rfl
  rw [PySem.Str.length_append, e3]
  have := ha.2
  have := hb.2
  have := hc.2
  have := hd.2
  have := he.2
  have := hf.2
  omega
/-- what a program with these commands tells -/
def dAsk (cs : List Cmd) : PyData := .list [dCs cs, dNames (doN cs), .int (cs.length : Nat), .str (pgT cs), .str (Str.ofString "Program(" ++ nt (cs.length : Nat) ++ Str.ofString ")"), .bool (decide (0 < cs.length))]
theorem sml_prt (n : Nat) : Sml (Str.ofString "Program(" ++ nt n ++ Str.ofString ")") := Sml.app (Sml.app (sml_of (by decide +kernel)) (sml_nt (by omega))) (sml_of (by decide +kernel))
theorem dok_ask {cs : List Cmd} (h : ∀ c ∈ cs, CmdOk c) : DOk (dAsk cs) 5 := (dok_list (n := 4) fun d hd => by
  simp only [List.mem_cons, List.not_mem_nil, or_false] at hd
  rcases hd with rfl | rfl | rfl | rfl | rfl | rfl
  · exact dok_cs h
  · exact (dok_names fun z hz => (doN_name h z hz).low).mono (by decide)
  · exact (dok_int _).mono (by decide)
  · exact (dok_str (sml_ok (sml_pg h))).mono (by decide)
  · exact (dok_str (sml_ok (sml_prt _))).mono (by decide)
  · exact (dok_bool _).mono (by decide)).1
theorem shw_ask {cs : List Cmd} (h : ∀ c ∈ cs, CmdOk c) (f : ∀ c ∈ cs, FewC c) (hl : cs.length ≤ 600) : Shw (dAsk cs) (60000 * cs.length + 20000) := by
  have h1 : Shw (dCs cs) (15002 * cs.length + 3) := (shw_tuple (n := 15000) fun d hd => by
    obtain ⟨c, hc, rfl⟩ := List.mem_map.mp hd
    exact shw_cm (h c hc) (f c hc)).mono (by rw [List.length_map]; omega)
  have h2 : Shw (dNames (doN cs)) (84 * cs.length + 3) := (shw_tuple (n := 82) fun d hd => by
    obtain ⟨z, hz, rfl⟩ := List.mem_map.mp hd
    exact shw_name (doN_name h z hz)).mono (by have := doN_len cs; rw [List.length_map]; omega)
  have h3 : Shw (.int (cs.length : Nat)) 510 := shw_int (by omega) (Int.lt_of_le_of_lt (show ((cs.length : Nat) : Int) ≤ 600 by omega) (by decide +kernel))
  have h4 := shw_txt (sml_pg h) (pg_lenF h f)
  have hn : (nt (cs.length : Nat)).length ≤ 600 := nt_len (by omega) (Int.lt_of_le_of_lt (show ((cs.length : Nat) : Int) ≤ 600 by omega) (by decide +kernel))
  have h5 : Shw (.str (Str.ofString "Program(" ++ nt (cs.length : Nat) ++ Str.ofString ")")) (10 * 609 + 2) := shw_txt (sml_prt _) (by
    have a1 : (Str.ofString "Program(").length = 8 := by decide +kernel
    have a2 : (Str.ofString ")").length = 1 := by decide +kernel
    rw [PySem.Str.length_append, PySem.Str.length_append, a1, a2]
    omega)
  exact (shw_list6 h1 h2 h3 h4 h5 (shw_bool _)).mono (by omega)
end Und
/-! definitions that are called while an error is handled; repr of any value -/
namespace Und
open PySem PySem.Spec PyProof.Rows L2 PySem.HandSPX
open L2H (RoomH roomH_of)
theorem RoomH.units {k : Nat} {A : Around} (r : RoomH k A) : A.units + 64 < cLine := by
  have := r.un
  omega
theorem roomH_mark {k : Nat} {A : Around} {u : Option Value} (r : RoomH k A) : RoomH k (A.mark u) := ⟨r.dp, r.un⟩
theorem still_mark {A : Around} {u : Option Value} (h : Still A) : Still (A.mark u) := h
/-- a definition's promise, whether an error is handled or not -/
structure FnQ (P : Program) (w : World) (K : PySem.W.Frag) (mg : Str → Option Value) (base : Heap) (k : Nat) (f : Addr) (fd : FuncData) (ps : List Str) (sp : Sp) : Prop where
  n : ∀ vs H Q E, sp vs H Q E → vs.length = ps.length
  go : ∀ (A : Around), Still A → RoomH k A → ∀ (outer : List Env) (s : Shared) (H : Hp) (args : Args) (us : List Value) (vs : List V) (Q : VK) (E : XK), Env0 P w K mg base A outer s H → BindsTo s fd args (ps.zip us) → Vals vs us → sp vs H Q E →
    codeAny (model P w) A (.call (.ref f) args) (CR CX0 outer P w H s Q E) s
section
variable {P : Program} {w : World} {K : PySem.W.Frag} {mg : Str → Option Value} {base : Heap} {j k : Nat} {f : Addr} {fd : FuncData} {ps N : List Str} {sp : Sp} {x qual : Str} {st : Stmt}
theorem FnQ.toG (F : FnQ P w K mg base k f fd ps sp) : FnG P w K mg base CX0 k f fd ps sp := ⟨F.n, fun A g r => F.go A g (roomH_of r)⟩
theorem FnQ.mono (F : FnQ P w K mg base j f fd ps sp) (h : j ≤ k) : FnQ P w K mg base k f fd ps sp := ⟨F.n, fun A g r => F.go A g (r.mono h)⟩
/-- the body's context: nothing is said of what is handled -/
def cxQ (P : Program) (w : World) (K : PySem.W.Frag) (mg : Str → Option Value) (base : Heap) (N : List Str) (qual : Str) (scope : Scope) (f : Addr) (cd : Value) (A : Around) (outer : List Env) (s : Shared) (H : Hp) (E : XK) : Cx :=
  { cxOf CX0 P w K mg base N qual scope f cd A outer s H E with calm := false }
theorem okQ (F : Fun K x qual st f fd) (S : FnScope N ps (defScope st)) (n : ∀ vs H Q E, sp vs H Q E → vs.length = ps.length)
    (body : ∀ (cdv : Value) (A : Around) (outer : List Env) (s : Shared) (H : Hp) (vs : List V) (Q : VK) (E : XK), Still (A.deeper (envOfC qual (defScope st) s.heap.objs.size f cdv)) → RoomH k (A.deeper (envOfC qual (defScope st) s.heap.objs.size f cdv)) → sp vs H Q E →
      ∃ t, PSs (cxQ P w K mg base N qual (defScope st) f cdv A outer s H E).nox (defBody st) t ∧ t { nx := fun _ H' => Q .non H', rt := Q } (start N vs) H) : FnQ P w K mg base (k + 1) f fd ps sp := by
  obtain ⟨oc, od, kV, doc, pm, an, cdv, ct, osl, rfl, lk, hcd⟩ := F.ex
  refine ⟨n, fun A g r outer s H args us vs Q E e0 hb v h => ?_⟩
  have kin : K.In s.heap := e0.mod.kin.keeps fun b o e => (e0.bs b o e).1
  have noLim : s.heap.NoLimit := e0.mod.nolimit.keeps fun b o e => (e0.bs b o e).1
  have kinds : ∀ y ∈ ps.zip us, (defScope st).names.lookup y.1 = some .local ∨ ((defScope st).names.lookup y.1 = some .cell ∧ ((cellsFrom (s.heap.objs.size + 1) (defScope st).names []).lookup y.1).isSome = true) := fun ⟨n, v⟩ hy => by
    rcases S.par n (List.of_mem_zip hy).1 with q | q
    · exact .inl q
    · exact .inr ⟨q, PySem.W.cellsFrom_some _ _ _ (.inl q)⟩
  refine codeAny_call_function r.depth (kin _ _ lk) rfl S.co S.gen rfl (PySem.W.codeRec_of kin hcd) (hb _ _ _ _ ?_)
  refine wpAny_newFunctionEnv_cells S.kind kinds fun env he s1 xx => ?_
  subst he
  refine ⟨noLim.keeps xx.toInCall.keep, codeAny_func ?_⟩
  obtain ⟨t, ht, hq⟩ := body cdv A outer s H vs Q E g (r.deeper _) h
  have e1 : Env0 P w K mg base { A with handled := none } outer s H := ⟨e0.frames, e0.mod, e0.bs, e0.bsz, e0.funs, e0.frf, e0.hok, e0.bare⟩
  have J : Inv (cxOf CX0 P w K mg base N qual (defScope st) f cdv { A with handled := none } outer s H E) [] (start N vs) H s1 := inv_start S rfl e1 (n _ _ _ _ h) v xx
  have J2 : Inv (cxQ P w K mg base N qual (defScope st) f cdv A outer s H E) [] (start N vs) H s1 :=
    ⟨⟨J.ok.mod, J.ok.kind, J.ok.glob, J.ok.blt, J.ok.above, J.ok.inj, J.ok.has, J.ok.cab, (fun z => Bool.noConfusion (show false = true from z)), Around.frames_deeper e0.frames, J.ok.stk, J.ok.exf, J.ok.bs, J.ok.bsz, J.ok.noex, J.ok.exfs, J.ok.funs, J.ok.frf⟩,
      J.os, J.bare, J.base, J.loc, J.cell, J.free, J.freeC, J.pin, J.hok, J.len⟩
  refine wpAny_mono (ht.nox.run [] s1 (start N vs) H _ J2 hq) (fun fl s' hs => ?_) fun e s' hs => hs
  have fin : ∀ {σ' : L2.St} {H' : Hp} {v : V} {u : Value}, Inv (cxQ P w K mg base N qual (defScope st) f cdv A outer s H E) [] σ' H' s' → RelV v u → Q v H' → CE outer P w H s Q u s' :=
    fun {σ' H' v u} J rv q => ⟨v, H', J.os, J.bare, J.base, J.hok, rv, q⟩
  match fl, hs with
  | .ret u, ⟨v, σ', H', J, rv, q⟩ => exact fin J rv q
  | .next, ⟨σ', H', J, q⟩ => exact fin (v := V.non) (u := Value.none) J rfl q
  | .brk, ⟨_, _, _, q⟩ => exact False.elim q
  | .cont, ⟨_, _, _, q⟩ => exact False.elim q
end
section
variable {X : Cx} {k : Nat} {f : Addr} {fd : FuncData} {ps : List Str} {sp : Sp} {E : XK} {x : Str} {st : Stmt} {p pos : Pos} {e : Expr} {es : List Expr} {t : TA}
theorem callQ {pins : List (Addr × Obj)} {σ : L2.St} {H : Hp} {s : Shared} {Q : VK} {us : List Value} {vs : List V} (F : FnQ X.prog X.w X.K X.mg X.base k f fd ps sp) (g : Still X.A) (r : RoomH k X.A) (b : Binds X.K fd ps [])
    (I : Inv X pins σ H s) (v : Vals vs us) (h : sp vs H Q E) : wpAny (model X.prog X.w) X.A (call (.ref f) us) (EP X pins σ Q) X.xe s := by
  have hl : (us ++ []).length = ps.length := by
    rw [List.append_nil, ← v.length]
    exact F.n _ _ _ _ h
  have bb := b s us I.kIn hl
  rw [List.append_nil] at bb
  refine wpAny_call (codeAny_mono (F.go X.A g r X.stack s H ⟨us, []⟩ us vs Q E I.env0 bb v h) fun z s' q => ?_)
  match z, q with
  | .error e, q => exact (show False from q).elim
  | .ok (.ret u), q => exact I.after q
/-- f(e, ..) of such a definition -/
theorem pcallQ (D : FD X.K X.mg x st ps f fd) (F : FnQ X.prog X.w X.K X.mg X.base k f fd ps sp) (g : Still X.A) (r : RoomH k X.A) (hg : Gl X x) (ha : PA X (e :: es) t) (hdb : (x == ("__debug__" : Str)) = false := by decide)
    (he : starEach (e :: es) X.env = (false, eval e X.env) :: starEach es X.env := by rfl) (hpl : (backTo pos (starEach es X.env)).any (·.1) = false := by rfl) :
    PE X (.Call (.Name x p) (e :: es) [] pos) (tCall sp [] E t) :=
  ⟨fun pins s σ H Q I h => wpAny_Call_Name_kw (ld_glob I hg D.m (PySem.W.callWith_K (h₀ := X.base) I.ok.mod.kin D.F.kp (thn (ha.run pos pins s σ H _ I h) fun us s1 ⟨vs, H1, I1, v, q⟩ => ⟨I1.kIn, callQ F g r D.b I1 v (by have q' : sp (vs ++ []) H1 Q E := q; rw [List.append_nil] at q'; exact q')⟩) he hpl) hdb)⟩
end
/-! ### repr of any value -/
/-- v is printed as x -/
inductive Rp (K : PySem.W.Frag) (H : Hp) : V → Str → Prop
  | non : Rp K H .non "None"
  | bl (b : Bool) : Rp K H (.bl b) (if b then "True" else "False")
  | int (i : Int) (h : i.natAbs.log2 < 1920) : Rp K H (.int i) (toString i)
  | str (x : Str) (h : (reprText x).length ≤ sizeLine) : Rp K H (.str x) (reprText x)
  | dat (a : Addr) (d : PyData) (h : Dp K H (.ref a) d) (h1 : d.showable = true) (h2 : d.hasDict = false) (h3 : d.depth ≤ 32) (h4 : d.shown.length ≤ sizeLine) : Rp K H (.ref a) d.shown
  | emp (a : Addr) (h : H a = some (.dK [])) : Rp K H (.ref a) (PyData.dict []).shown
theorem Rp.mono {K : PySem.W.Frag} {H H' : Hp} {v : V} {x : Str} (s : Same H H') (h : Rp K H v x) : Rp K H' v x := by
  cases h with
  | non => exact .non
  | bl b => exact .bl b
  | int i h => exact .int i h
  | str x h => exact .str x h
  | dat a d h h1 h2 h3 h4 => exact .dat a d (dp_mono s d _ h) h1 h2 h3 h4
  | emp a h => exact .emp a (s _ _ h)
def crReprA (K : PySem.W.Frag) : List V → Hp → VK → Prop := fun xs H Q => ∃ v x, xs = [v] ∧ Rp K H v x ∧ Q (.str x) H
theorem crRA {X : Cx} {K : PySem.W.Frag} {k : Nat} (g : Still X.A) (r : RoomH k X.A) (hK : X.K = K := by rfl) : CallR X (.builtin "repr") (crReprA K) := by
  subst hK
  intro pins s σ H xs us Q I v h
  obtain ⟨v0, x, rfl, hr, q⟩ := h
  obtain ⟨u, rfl, ru⟩ := vals1 v
  have un := r.un
  cases hr with
  | non =>
    obtain rfl : u = Value.none := ru
    exact PySem.P.repr_of_none ⟨.str _, H, I.tok _, ⟨_, rfl⟩, q⟩
  | bl b =>
    obtain rfl : u = Value.bool b := ru
    exact PySem.P.repr_of_bool ⟨.str _, H, I.tok _, ⟨_, rfl⟩, q⟩
  | int i h =>
    obtain ⟨t, rfl⟩ := ru
    exact PySem.P.repr_of_int h ⟨.str _, H, I.tok _, ⟨_, rfl⟩, q⟩
  | str y h =>
    obtain ⟨t, rfl⟩ := ru
    exact PySem.P.repr_of_str ⟨.str _, H, I.tok _, ⟨_, rfl⟩, q⟩ h
  | dat a d hd h1 h2 h3 h4 =>
    obtain rfl : u = Value.ref a := ru
    obtain ⟨as, rd⟩ := Dp.reads I d _ (.ref a) hd rfl
    exact repr_of_reads' rd h1 (fun z => by rw [h2] at z; cases z) g (by omega) (fun _ _ e => e) (fun h' u tk k => ⟨.str d.shown, H, I.kept k, ⟨u, rfl⟩, q⟩) h4
  | emp a ha =>
    obtain rfl : u = Value.ref a := ru
    obtain ⟨_, hsm, vs, kv, o, es, ep, ho, hx, hd, _, hp, _⟩ := dk_of I.hok ha
    have nb : a ≠ sysModules := beq_eq_false_iff_ne.mp hsm
    cases kv
    have hes : es.toList = [] := by
      generalize es.toList = l at hp
      cases hp
      rfl
    have rd : Reads s.heap (.ref a) (.dict []) (a :: [] ++ []) := Reads.dict ho hx.1 hd (by rw [hes]; exact .nil) (by rw [hes]; exact .nil)
    refine repr_of_reads' rd (by decide +kernel) (fun _ z => ?_) g (by show X.A.units + (_ + 1) < _; have : (PyData.dict []).depth ≤ 32 := by decide +kernel
                                                                       omega) (fun _ _ e => e) (fun h' u tk k => ⟨.str _, H, I.kept k, ⟨u, rfl⟩, q⟩) (by decide +kernel)
    simp only [List.cons_append, List.nil_append, List.append_nil, List.mem_cons, List.not_mem_nil, or_false] at z
    exact nb z.symm
theorem c_reprA {K : PySem.W.Frag} {v : V} {x : Str} {H : Hp} {Q : VK} (h : Rp K H v x) (q : Q (.str x) H) : crReprA K [v] H Q := ⟨v, x, rfl, h, q⟩
end Und
/-! lambdas that are handed to a definition which calls them in a try; the tables of code objects -/
namespace Und
open PySem PySem.Spec PyProof.Rows L2 PySem.HandSPX LamX
open L2H (RoomH roomH_of)
/-! ### data stays, where tables grow -/
theorem dp_ext {K : PySem.W.Frag} {H H' : Hp} (s : ExtN H H') : ∀ (d : PyData) (v : V), Dp K H v d → Dp K H' v d := by
  have e1 : ∃ H0 : Hp, H0 = fun b => match H b with | some (.tbl _) => none | o => o := ⟨_, rfl⟩
  obtain ⟨H0, e0⟩ := e1
  have sm : Same H0 H' := fun b o e => by
    have e' : (match H b with | some (.tbl _) => none | o => o) = some o := by
      rw [e0] at e
      exact e
    split at e'
    · cases e'
    · rename_i h
      exact s b o e' fun ps z => h ps (by rw [e', z])
  have get : ∀ (b : Addr) (o : HO), H b = some o → (∀ ps, o ≠ .tbl ps) → H0 b = some o := fun b o e n => by
    rw [e0]
    show (match H b with | some (.tbl _) => none | o => o) = some o
    rw [e]
    split
    · rename_i ps z
      exact absurd (Option.some.inj z) (n ps)
    · rfl
  have sq : ∀ {a : Addr} {xs : List V}, SqL K H a xs → SqL K H0 a xs := fun {a xs} h => by
    rcases h with (h | ⟨o, h⟩) | h
    · exact .inl (.inl (get _ _ h fun ps z => by cases z))
    · exact .inl (.inr ⟨o, get _ _ h fun ps z => by cases z⟩)
    · exact .inr h
  have st : ∀ {a : Addr} {xs : List V}, SqT K H a xs → SqT K H0 a xs := fun {a xs} h => by
    rcases h with (h | ⟨o, h⟩) | h
    · exact .inl (.inl (get _ _ h fun ps z => by cases z))
    · exact .inl (.inr ⟨o, get _ _ h fun ps z => by cases z⟩)
    · exact .inr h
  have all : ∀ (d : PyData) (v : V), Dp K H v d → Dp K H0 v d := by
    intro d v h
    induction h using Dp.rec (motive_2 := fun xs ds _ => DpAll K H0 xs ds) with
    | non => exact .non
    | bl b => exact .bl b
    | int i => exact .int i
    | str x => exact .str x
    | lst e _ ih => exact .lst (sq e) ih
    | tup e _ ih => exact .tup (st e) ih
    | nil => exact .nil
    | cons _ _ i1 i2 => exact .cons i1 i2
  exact fun d v h => dp_mono sm d v (all d v h)
theorem ExtN.seq {K : PySem.W.Frag} {H H' : Hp} {a : Addr} {xs : List V} (s : ExtN H H') (h : SqL K H a xs) : SqL K H' a xs := by
  rcases h with (h | ⟨o, h⟩) | h
  · exact .inl (.inl (s _ _ h fun ps z => by cases z))
  · exact .inl (.inr ⟨o, s _ _ h fun ps z => by cases z⟩)
  · exact .inr h
theorem ExtN.seqT {K : PySem.W.Frag} {H H' : Hp} {a : Addr} {xs : List V} (s : ExtN H H') (h : SqT K H a xs) : SqT K H' a xs := by
  rcases h with (h | ⟨o, h⟩) | h
  · exact .inl (.inl (s _ _ h fun ps z => by cases z))
  · exact .inl (.inr ⟨o, s _ _ h fun ps z => by cases z⟩)
  · exact .inr h
theorem Rp.ext {K : PySem.W.Frag} {H H' : Hp} {v : V} {x : Str} (s : ExtN H H') (h : Rp K H v x) : Rp K H' v x := by
  cases h with
  | non => exact .non
  | bl b => exact .bl b
  | int i h => exact .int i h
  | str x h => exact .str x h
  | dat a d h h1 h2 h3 h4 => exact .dat a d (dp_ext s d _ h) h1 h2 h3 h4
  | emp a h => exact .emp a (s _ _ h fun ps z => by cases z)
/-! ### a definition that makes lambdas -/
structure FunC (K : PySem.W.Frag) (x : Str) (st : Stmt) (f : Addr) (fd : FuncData) (c : Addr) : Prop where
  ex : ∃ (oc : Value) (od : Option Addr) (kV doc pm : Value) (an : Option Addr) (ct : Value) (osl : Array (Option Value)),
    fd = PySem.W.fnOf x x (defArgs st) (defBody st) (defScope st) .none kV doc pm an (.ref c) ct ∧ K.lookup f = some ⟨oc, od, .func fd, osl⟩ ∧ PySem.W.codeIn K (.ref c) x = true
section
variable {P : Program} {w : World} {K : PySem.W.Frag} {mg : Str → Option Value} {base : Heap} {k : Nat} {f c : Addr} {fd : FuncData} {ps N : List Str} {sp : Sp} {x : Str} {st : Stmt}
theorem okC (F : FunC K x st f fd c) (S : FnScope N ps (defScope st)) (n : ∀ vs H Q E, sp vs H Q E → vs.length = ps.length)
    (body : ∀ (A : Around) (outer : List Env) (s : Shared) (H : Hp) (vs : List V) (Q : VK) (E : XK), Still (A.deeper (envOfC x (defScope st) s.heap.objs.size f (.ref c))) → Room k (A.deeper (envOfC x (defScope st) s.heap.objs.size f (.ref c))) → sp vs H Q E →
      ∃ t, PSs (cxOf CX0 P w K mg base N x (defScope st) f (.ref c) A outer s H E).nox (defBody st) t ∧ t { nx := fun _ H' => Q .non H', rt := Q } (start N vs) H) : FnG P w K mg base CX0 (k + 1) f fd ps sp := by
  obtain ⟨oc, od, kV, doc, pm, an, ct, osl, rfl, lk, hcd⟩ := F.ex
  exact ⟨n, fun A g r outer s H args us vs Q E e0 b v h => LamX.run_ofS lk hcd S r e0 b v (n _ _ _ _ h) fun r' => let ⟨t, p, q⟩ := body A outer s H vs Q E g r' h; ⟨t, p.nox, q⟩⟩
end
/-! ### what the definition with the try makes of a lambda -/
section
variable {X : Cx}
/-- the call of the lambda in the try's body -/
def tAct (tl : XK → Hp → VK → Prop) (f c' : Addr) (q : Str) (W : WX) : TE := fun σ H Q => ∃ Ech : XK, (∀ cls d σ' H', Ech cls d H' → W cls d σ' H') ∧ σ[0]? = some (some (.ref f)) ∧ H c' = some (CodeO c' q) ∧ tl Ech H Q
theorem pe_actW {X : Cx} {tl : XK → Hp → VK → Prop} {f c' : Addr} {q : Str} {W : WX} {e : Expr} (act : ∀ E : XK, (∀ cls d σ' H', E cls d H' → W cls d σ' H') → PE X e (fun σZ HZ Q => σZ[0]? = some (some (.ref f)) ∧ HZ c' = some (CodeO c' q) ∧ tl E HZ Q)) : PE X e (tAct tl f c' q W) := by
  refine ⟨fun pins s σ H Q I h => ?_⟩
  obtain ⟨Ech, hW, h1, h2, h3⟩ := h
  exact (act Ech hW).run pins s σ H Q I ⟨h1, h2, h3⟩
theorem c_act {tl : XK → Hp → VK → Prop} {f c' : Addr} {q : Str} {W : WX} {σ : L2.St} {H : Hp} {Q : VK} (Ech : XK) (hW : ∀ cls d σ' H', Ech cls d H' → W cls d σ' H') (h1 : σ[0]? = some (some (.ref f))) (h2 : H c' = some (CodeO c' q)) (h3 : tl Ech H Q) : tAct tl f c' q W σ H Q := ⟨Ech, hW, h1, h2, h3⟩
/-- x(lambda: body) -/
theorem lamD {T : List (Addr × Str)} {TT : (XK → Hp → VK → Prop) → Hp → VK → Prop} {x a : Str} {stg : Stmt} {g c P : Addr} {k : Nat} {fdg : FuncData} {Ng : List Str} {params : Arguments} {body : Expr} {scope : Scope} {t : XK → TE} {p lpos pos : Pos}
    (D : FD X.K X.mg x stg [a] g fdg) (Sg : FnScope Ng [a] (defScope stg)) (hNg : Ng[0]? = some a) (hva : Vis (defScope stg) a) (hG : ∀ cdv, GivesTo X Ng x (defScope stg) g cdv (defBody stg) a (X.env.qual ++ "<lambda>") TT)
    (TB : TabB X.base X.mg c P) (hcode : X.env.code = .ref c) (hmT : (P, X.env.qual ++ "<lambda>") ∈ T) (hu : ∀ p ∈ T, p.1 = P → p.2 = X.env.qual ++ "<lambda>") (hr : Room (k + 2) X.A) (hg : Gl X x) (L : LamS X.env.scope scope) (hdef : defaultsOf params X.env = ([], []))
    (hbind : ∀ (q : Str) (cl : List (Str × Addr)) (pm cv ctv : Value), bindArgs (PySem.W.kla_fn "<lambda>" q params body scope cl pm cv ctv) ⟨[], []⟩ = pure [])
    (hbody : ∀ (A : Around) (outer : List Env) (s : Shared) (H : Hp) (E : XK) (f c' : Addr), Room k (A.deeper (lamEnv X scope s.heap.objs.size f c')) → PE (lamCx X A outer s H E scope f c') body (t E))
    (hdb : (x == ("__debug__" : Str)) = false := by decide) (hd : (a == ("__debug__" : Str)) = false := by decide) (hcd : (a == ("__classdict__" : Str)) = false := by decide) :
    PE X (.Call (.Name x p) [.Lambda params body scope lpos] [] pos) (tLam T TT t) := by
  obtain ⟨oc, od, kV, doc, pm, an, cdv, ct, osl, rfl, lk, hcg⟩ := D.F.ex
  exact pe_lamcall hg D.m D.F.kp lk hcg D.b Sg hNg hva (hG cdv) TB hcode hmT hu hr L hdef hbind hbody hdb hd hcd
theorem c_lam {T : List (Addr × Str)} {TT : (XK → Hp → VK → Prop) → Hp → VK → Prop} {t : XK → TE} {σ : L2.St} {H : Hp} {Q : VK} (hT : Tabs T H) (h : ∀ H1, ExtN H H1 → Tabs T H1 → TT (fun E H' Q' => t E σ H' Q') H1 Q) : tLam T TT t σ H Q := ⟨hT, h⟩
end
/-! ### the law's own call, with tables -/
section
variable {P : Program} {w : World} {K : PySem.W.Frag} {mg mb : Str → Option Value} {CX : CXT} {k : Nat} {fa a : Addr} {cs : List (Addr × Addr)} {fd : FuncData} {x : Str} {sp : Sp} {s : Shared} {vs : List Value} {ns : List Int}
/-- how the script and the tables are seen -/
structure SeenT (K : PySem.W.Frag) (P : Program) (w : World) (s : Shared) (a : Addr) (ns : List Int) (ts : List Addr) (H : Hp) : Prop where
  only : ∀ b, H b = none ∨ b ∈ ts ∨ ∃ o xs, H b = some (.frz o (.lst xs))
  tab : ∀ b ∈ ts, H b = some (.tbl #[])
  seq : SqL K H a (ns.map V.int)
  ok : HOk P w H s.heap
  base : ∀ b o, s.heap.get? b = some o → H b = none ∨ (b = a ∧ K.lookup a = none) ∨ b ∈ ts
theorem seenT {ts : List Addr} (hT : ∀ b ∈ ts, s.heap.get? b = some { cls := .none, data := .fields #[] }) (KX : K.In s.heap) (ha : s.heap.get? a = some { cls := .type "list", data := .seq vs.toArray }) (hi : IntsAre vs ns) (hl : ns.length ≤ sizeLine) : ∃ H, SeenT K P w s a ns ts H := by
  obtain ⟨H0, S⟩ := seen (P := P) (w := w) KX ha hi hl
  have na : a ∉ ts := fun z => by
    have q := (hT a z).symm.trans ha
    have q' : Data.fields #[] = Data.seq vs.toArray _ := congrArg Obj.data (Option.some.inj q)
    cases q'
  have nF : ∀ b ∈ ts, H0 b = none := fun b hb => by
    rcases S.only b with h | ⟨o, xs, h⟩
    · exact h
    · obtain ⟨e, _, its, n, _, e2⟩ := S.ok b _ h
      have q := (hT b hb).symm.trans e2
      have q' : Data.fields #[] = Data.seq _ _ := congrArg Obj.data (Option.some.inj q)
      cases q'
  refine ⟨fun b => if b ∈ ts then some (.tbl #[]) else H0 b, fun b => ?_, fun b hb => if_pos hb, ?_, fun b u e => ?_, fun b o e => ?_⟩
  · by_cases hb : b ∈ ts
    · exact .inr (.inl hb)
    · rcases S.only b with h | ⟨o, xs, h⟩
      · exact .inl ((if_neg hb).trans h)
      · exact .inr (.inr ⟨o, xs, (if_neg hb).trans h⟩)
  · rcases S.seq with (h | ⟨o, h⟩) | h
    · exact .inl (.inl ((if_neg na).trans h))
    · exact .inl (.inr ⟨o, (if_neg na).trans h⟩)
    · exact .inr h
  · by_cases hb : b ∈ ts
    · have e' := (if_pos hb).symm.trans e
      cases e'
      exact hT b hb
    · have e' := (if_neg hb).symm.trans e
      rcases S.only b with h | ⟨o, xs, h⟩
      · rw [h] at e'
        cases e'
      · rw [h] at e'
        cases e'
        exact S.ok b _ h
  · by_cases hb : b ∈ ts
    · exact .inr (.inr hb)
    · rcases S.base b o e with h | h
      · exact .inl ((if_neg hb).trans h)
      · exact .inr (.inl h)
theorem SeenT.at {ts : List Addr} {H : Hp} {b : Addr} {o : Obj} (S : SeenT K P w s a ns ts H) (e : s.heap.get? b = some o) (n : K.lookup b ≠ none ∨ b ≠ a) (nt : b ∉ ts) : (hidT s.heap H).get? b = some o := by
  rcases S.base b o e with h | ⟨h, h'⟩ | h
  · exact hidT_get e h
  · rcases n with n | n
    · rw [h] at n
      exact absurd h' n
    · exact absurd h n
  · exact absurd h nt
/-- what the end has to know of the law's promise -/
structure LawT (P : Program) (w : World) (K : PySem.W.Frag) (CX : CXT) (k n : Nat) (x : Str) (mg : Str → Option Value) (fa : Addr) (h : Heap) (fd : FuncData) (cs : List (Addr × Addr)) (sp : Sp) : Prop where
  tab : ∀ p ∈ cs, h.get? p.2 = some { cls := .none, data := .fields #[] }
  out : ∀ p ∈ cs, K.lookup p.2 = none
  code : ∀ p ∈ cs, PySem.W.CodeHd h p.1 p.2
  bind : ∀ (s : Shared) (u : Value), BindsTo s fd ⟨[u], []⟩ [(x, u)]
  say : ∀ (H : Hp) (a : Addr) (ns : List Int), ns.length ≤ n → (∀ p ∈ cs, H p.2 = some (.tbl #[])) → SqL K H a (ns.map V.int) → sp [.ref a] H (fun v _ => v = .bl true) fun _ _ _ => False
  run : ∀ base : Heap, K.In base → base.Ns mainGlobals mg → (∀ p ∈ cs, TabB base mg p.1 p.2) → FnG P w K mg base CX k fa fd [x] sp
theorem law_callT {n : Nat} (KX : K.In s.heap) (hns : s.heap.Ns mainGlobals mg) (hb : s.heap.Ns builtinsNs mb) (hbb : ∀ x : Str, x ≠ "__name__" → mb x = bootBuiltins x) (hlim : s.heap.NoLimit) (hg : s.gens = #[])
    (hbm : ∃ (bm : Addr) (ob : Obj), mg "__builtins__" = some (.ref bm) ∧ bm ≠ builtinsNs ∧ s.heap.get? bm = some ob ∧ ob.cls = .type "module" ∧ ob.dict = some builtinsNs ∧ ob.data = .plain)
    (ha : s.heap.get? a = some { cls := .type "list", data := .seq vs.toArray }) (hi : IntsAre vs ns) (hl : ns.length ≤ n) (hn : n ≤ sizeLine) (hr : Room k callerA) (L : LawT P w K CX k n x mg fa s.heap fd cs sp) (hCX : ∀ H e s', CX [] H s (fun _ _ _ => False) e s' → False) :
    codeAny (model P w) callerA (.call (.ref fa) ⟨[.ref a], []⟩) (fun r s' => r = .ok (.ret (.bool true)) ∧ OldK s.heap s'.heap ∧ s'.os = s.os ∧ AllBare s'.gens) s := by
  have hT : ∀ b ∈ cs.map (·.2), s.heap.get? b = some { cls := .none, data := .fields #[] } := fun b hb => by
    obtain ⟨p, hp, rfl⟩ := List.mem_map.mp hb
    exact L.tab p hp
  obtain ⟨H, S⟩ := seenT (P := P) (w := w) hT KX ha hi (Nat.le_trans hl hn)
  have notT : ∀ {b : Addr} {o : Obj}, s.heap.get? b = some o → o.data ≠ .fields #[] → b ∉ cs.map (·.2) := fun {b o} e d z => by
    rw [hT b z] at e
    cases e
    exact d rfl
  have notA : ∀ {b : Addr} {o : Obj}, s.heap.get? b = some o → (∀ vs n, o.data ≠ .seq vs n) → b ≠ a := fun {b o} e d z => by
    rw [z, ha] at e
    cases e
    exact d _ _ rfl
  have kOut : ∀ b ∈ cs.map (·.2), K.lookup b = none := fun b hb => by
    obtain ⟨p, hp, rfl⟩ := List.mem_map.mp hb
    exact L.out p hp
  have names : ∀ {b : Addr} {m : Str → Option Value}, s.heap.Ns b m → (hidT s.heap H).Ns b m := fun {b m} ⟨o, es, ep, e, d, r⟩ => by
    refine ⟨o, es, ep, S.at e (.inr (notA e fun vs n z => ?_)) (notT e fun z => ?_), d, r⟩
    · rw [d] at z
      cases z
    · rw [d] at z
      cases z
  have kb : K.In (hidT s.heap H) := fun b o e => S.at (KX b o e) (.inl fun z => by rw [e] at z; cases z) fun z => by
    rw [kOut b z] at e
    cases e
  have mod : Mod K mg (hidT s.heap H) := ⟨kb, names hns, ⟨mb, names hb, hbb⟩, hlim.elim fun mc h => ⟨mc, names h.1, h.2⟩⟩
  have TB : ∀ p ∈ cs, TabB (hidT s.heap H) mg p.1 p.2 := fun p hp => by
    have at2 := L.tab p hp
    have gP : mainGlobals ≠ p.2 := fun z => by
      obtain ⟨o, es, ep, e, d, _⟩ := hns
      rw [z, at2] at e
      cases e
      cases d
    refine ⟨?_, ?_, gP⟩
    · obtain ⟨o, us, file, tf, fl, tg, inF, tx, tt, e1, r1, r2, r3, rest⟩ := L.code p hp
      refine ⟨o, us, file, tf, fl, tg, inF, tx, tt, S.at e1 (.inr (notA e1 fun vs n z => ?_)) (notT e1 fun z => ?_), r1, r2, r3, rest⟩
      · rw [r2] at z
        cases z
      · rw [r2] at z
        cases z
        simp at r3
    · obtain ⟨bm, ob, b1, b2, b3, b4, b5, b6⟩ := hbm
      have n1 : bm ≠ mainGlobals := fun z => by
        obtain ⟨o, es, ep, e, d, _⟩ := hns
        rw [z, e] at b3
        cases b3
        rw [d] at b6
        cases b6
      have n2 : bm ≠ p.2 := fun z => by
        rw [z, at2] at b3
        cases b3
        cases b6
      refine ⟨bm, ob, b1, b2, n1, n2, S.at b3 (.inr (notA b3 fun vs n z => ?_)) (notT b3 fun z => ?_), b4, b5, b6⟩
      · rw [b6] at z
        cases z
      · rw [b6] at z
        cases z
  have no : ∀ b : Addr, b ∉ frs ([] : List Env) := fun b z => nomatch (show b ∈ ([] : List Addr) from z)
  have e0 : Env0 P w K mg (hidT s.heap H) callerA [] s H := ⟨rfl, mod, fun _ _ => of_hidT, Nat.le_of_eq (hidT_size _ _), trivial, fun b z => absurd z (no b), S.ok, .of_eq hg⟩
  refine codeAny_mono ((L.run _ kb mod.glob TB).go callerA still_caller hr [] s H _ [.ref a] [.ref a] _ _ e0 (L.bind s (.ref a)) (.cons rfl .nil) (L.say H a ns hl (fun p hp => S.tab _ (List.mem_map.mpr ⟨p, hp, rfl⟩)) S.seq)) fun r s' h => ?_
  match r, h with
  | .error e, h => exact (hCX H e s' h).elim
  | .ok (.ret u), ⟨v, H', os, bare, un, ok', rv, (qv : v = .bl true)⟩ =>
    subst qv
    obtain rfl : u = Value.bool true := rv
    have kept : ∀ b o, b ∉ cs.map (·.2) → s.heap.get? b = some o → s'.heap.get? b = some o := fun b o nb e => by
      rcases S.only b with n | n | ⟨o', xs, n⟩
      · exact un.keep b o e n (no b) (by simp)
      · exact absurd n nb
      · have o1 := (S.ok b _ n).1
        have o2 := (ok' b _ (un.frzs b o' _ n)).1
        rw [e] at o1
        cases o1
        exact o2
    have grown : ∀ b ∈ cs.map (·.2), ∃ more : Array Value, s'.heap.get? b = some { cls := .none, data := .fields more } := fun b hb => by
      obtain ⟨more, z⟩ := un.tbls b #[] (S.tab b hb)
      exact ⟨_, ok' b _ z⟩
    refine ⟨rfl, ⟨fun b o e => ?_, fun b o e => ?_⟩, os, bare⟩
    · by_cases hb : b ∈ cs.map (·.2)
      · obtain ⟨more, hm⟩ := grown b hb
        obtain ⟨p, hp, rfl⟩ := List.mem_map.mp hb
        rw [L.tab p hp] at e
        cases e
        exact .inr (.inl ⟨((L.code p hp).tab (L.tab p hp)).isCodeTable, rfl, #[], more, rfl, by rw [Array.empty_append]; exact hm⟩)
      · exact .inl (kept b o hb e)
    · by_cases hb : b ∈ cs.map (·.2)
      · obtain ⟨more, hm⟩ := grown b hb
        exact ⟨_, hm⟩
      · exact ⟨o, kept b o hb e⟩
end
theorem walk_ofT {l : PySem.W.OpenLaw} {n k : Nat} {q : Program} {loose : List Str} {XP : (Str → Option Value) → Heap → Prop} {YP : World → Heap → Prop} {d : DefRec} {K : Params → PySem.W.Frag} {CX : World → CXT} {x : Str}
    (hn : l.most = some n) (hn2 : n ≤ sizeLine) (hdf : d.params.defaults = []) (hr : Room k callerA) (hY : ∀ (w : World) (h : Heap), YP w h → (K w.params).In h)
    (F : ∀ (w : World) (mg : Str → Option Value) (fa : Addr) (h : Heap), YP w h → (K w.params).In h → h.Ns mainGlobals mg → mg d.name = some (.ref fa) → ∃ fd cs sp, LawT l.prog w (K w.params) (CX w) k n x mg fa h fd cs sp)
    (hCX : ∀ (w : World) (H : Hp) (s : Shared) (e : Value) (s' : Shared), CX w [] H s (fun _ _ _ => False) e s' → False) :
    PySem.W.WalkO q loose XP YP l.row.toRowW d [] (fun f vs => PySem.call f vs) :=
  Att.attach_callB hn hdf fun w _ s mg mb fa _ _ _ _ a vs ns G Y _ _ _ hmg hobj hints hlen _ hg =>
    let KX := hY w _ Y
    let ⟨_, _, _, L⟩ := F w mg fa _ Y KX G.T.g hmg
    law_callT KX G.T.g G.T.b G.T.builtins G.T.nolimit hg G.T.bmain hobj hints hlen hn2 hr L fun H e s' => hCX w H s e s'
/-! ### what the written part says of a maker's code -/
/-- the object is a code object, its table at P -/
def codeOk (o : Obj) (c P : Addr) : Bool := PySem.W.codeHdIn [(c, o)] c P
def codeTab (o : Obj) : Option Addr := match o.data with
  | .fields vs => (match (vs[11]? : Option Value) with | some (.ref P) => some P | _ => none)
  | _ => none
theorem codeHd_of {K : PySem.W.Frag} {h : Heap} {c P : Addr} {o : Obj} (X : K.In h) (e : K.lookup c = some o) (k : codeOk o c P = true) : PySem.W.CodeHd h c P := by
  refine PySem.W.codeHd_of_K X ?_
  have e2 : List.lookup c [(c, o)] = some o := by simp
  unfold codeOk PySem.W.codeHdIn at k
  unfold PySem.W.codeHdIn
  rw [e]
  rw [e2] at k
  exact k
end Und
namespace Und
open PySem PySem.Spec PyProof.Rows L2 LamX
theorem _root_.L2H.RoomH.units {k : Nat} {A : Around} (r : L2H.RoomH k A) : A.units + 64 < cLine := by
  have := r.un
  omega
/-- the name of the lambdas that the definition x makes -/
abbrev lamQ (x : Str) : Str := (x ++ ".<locals>.") ++ "<lambda>"
/-- what a definition that makes lambdas leans on -/
structure LTab (base : Heap) (mg : Str → Option Value) (Ts : List (Addr × Str)) (x : Str) (c P : Addr) : Prop where
  tb : TabB base mg c P
  mem : (P, lamQ x) ∈ Ts
  uq : ∀ p ∈ Ts, p.1 = P → p.2 = lamQ x
theorem tabs0 {Ts : List (Addr × Str)} {H : Hp} (h : ∀ p ∈ Ts, H p.1 = some (.tbl #[])) : Tabs Ts H := fun p hp => TabS.nil (h p hp)
theorem tab_uq : ∀ {Ts : List (Addr × Str)} {P : Addr} {q : Str}, (Ts.Pairwise fun a b => a.1 ≠ b.1) → (P, q) ∈ Ts → ∀ p ∈ Ts, p.1 = P → p.2 = q
  | [], _, _, _, h, _, _, _ => by cases h
  | a :: r, P, q, pw, h, p, hp, e => by
    obtain ⟨h1, h2⟩ := List.pairwise_cons.mp pw
    rcases List.mem_cons.mp h with h | h
    · rcases List.mem_cons.mp hp with hp | hp
      · rw [hp, ← h]
      · have := h1 p hp
        rw [← h] at this
        exact absurd e.symm this
    · rcases List.mem_cons.mp hp with hp | hp
      · have := h1 _ h
        rw [← hp] at this
        exact absurd e this
      · exact tab_uq h2 h p hp e
theorem c_try {K : PySem.W.Frag} {cs : List Value} {i n : Nat} {tb : WX → TS} {ts : TS} {D : Ends} {σ : L2.St} {H : Hp} (h : tb (wT K cs i n ts D) D σ H) : tTry K cs i n tb ts D σ H := h
end Und
/-! draws, comprehensions and the law's end where tables grow -/
namespace Und
open PySem PySem.Spec PyProof.Rows L2 LamX
/-- the pool is drawn from, tables grow -/
structure StpN (p : Addr) (H H' : Hp) : Prop where
  s : ExtN (hid p H) (hid p H')
  q : Pool H' p
section
variable {p a : Addr} {H H' H2 : Hp} {T : List (Addr × Str)}
theorem Pool.noT (q : Pool H p) : ∀ ps, H p ≠ some (.tbl ps) := fun ps z => by
  obtain ⟨a, b, c, e, _⟩ := q
  rw [e] at z
  cases z
theorem StpN.of (s : Stp p H H') : StpN p H H' := ⟨.of s.s, s.q⟩
theorem StpN.ext (q : Pool H p) (e : ExtN H H') : StpN p H H' := by
  refine ⟨fun b o h n => ?_, ?_⟩
  · by_cases hb : b = p
    · rw [hb] at h
      unfold hid at h
      rw [if_pos rfl] at h
      cases h
    · rw [hid_ne hb] at h ⊢
      exact e _ _ h n
  · obtain ⟨x, y, z, e1, r⟩ := q
    exact ⟨x, y, z, e _ _ e1 (fun ps z => by cases z), r⟩
theorem StpN.trans (s : StpN p H H') (t : StpN p H' H2) : StpN p H H2 := ⟨ExtN.trans s.s t.s, t.q⟩
theorem StpN.refl (q : Pool H p) : StpN p H H := ⟨.refl _, q⟩
theorem StpN.at {o : HO} (s : StpN p H H') (e : H a = some o) (ne : p ≠ a) (n : ∀ ps, o ≠ .tbl ps) : H' a = some o := by
  have h := s.s a o ((hid_ne ne.symm).trans e) n
  rwa [hid_ne ne.symm] at h
theorem tabs_hid (q : Pool H p) (t : Tabs T H) : Tabs T (hid p H) := fun x hx => by
  obtain ⟨ps, h1, h2, h3⟩ := t x hx
  have n1 : x.1 ≠ p := fun z => by
    rw [z] at h1
    exact q.noT ps h1
  refine ⟨ps, (hid_ne n1).trans h1, h2, fun pos cv hc => ?_⟩
  obtain ⟨c, e1, e2⟩ := h3 pos cv hc
  refine ⟨c, e1, (hid_ne fun z => ?_).trans e2⟩
  rw [z] at e2
  obtain ⟨x, y, w, e3, _⟩ := q
  rw [e3] at e2
  unfold CodeO at e2
  cases e2
theorem tabs_stp (q : Pool H p) (s : Stp p H H') (t : Tabs T H) : Tabs T H' := ((tabs_hid q t).ext s.s).ext (hid_same p H')
/-- an object that is neither a table nor a code object is laid or changed -/
theorem tabs_put {D : Addr} {l l' : List V} (t : Tabs T H) (e : H D = some (.lst l) ∨ H D = none) : Tabs T (upd H D (.lst l')) := fun x hx => by
  obtain ⟨ps, h1, h2, h3⟩ := t x hx
  have no : ∀ {b : Addr} {o : HO}, H b = some o → (∀ l, o ≠ .lst l) → b ≠ D := fun {b o} h n z => by
    rcases e with e | e
    · rw [z, e] at h
      exact n _ (Option.some.inj h).symm
    · rw [z, e] at h
      cases h
  refine ⟨ps, (upd_ne (no h1 fun l z => by cases z)).trans h1, h2, fun pos cv hc => ?_⟩
  obtain ⟨c, e1, e2⟩ := h3 pos cv hc
  exact ⟨c, e1, (upd_ne (no e2 fun l z => by
    unfold CodeO at z
    cases z)).trans e2⟩
theorem extN_put {D : Addr} {o : HO} (s : ExtN H H') (nD : H D = none) : ExtN H (upd H' D o) := fun b u e n => by
  rw [upd_ne (ne_of_none e nD)]
  exact s b u e n
end
section
variable {te : TE} {i0 n : Nat} {vs : List Nat} {σ : L2.St} {H1 : Hp} {D : Addr} {Qd : Hp → Prop} {T : List (Addr × Str)}
/-- a comprehension over range(n), tables grow on the way -/
theorem lc_rgT (R : Nat → V → Prop) (t1 : Tabs T H1) (nD : H1 D = none) (hn : n ≤ 100000) (hw : ∀ v, wipe ((wipe σ vs).set i0 (some v)) vs = wipe σ vs)
    (hs : ∀ i H (Q' : VK), i < n → ExtN H1 H → Tabs T H → (∀ y H4, ExtN H H4 → Tabs T H4 → R i y → Q' y H4) → te ((wipe σ vs).set i0 (some (.int (i : Int)))) H Q')
    (hd : ∀ H xs, ExtN H1 H → Tabs T H → H D = some (.lst xs) → xs.length = n → (∀ i y, xs[i]? = some y → R i y) → Qd H) : LcW (Itr 0 n) te (gName i0) tYes vs σ H1 D Qd := by
  refine lc_range (fun i H => ExtN H1 H ∧ Tabs T H ∧ Acc R D i H) ⟨.of (same_new nD), tabs_put (l := []) t1 (.inr nD), [], upd_same, rfl, fun j y e => by simp at e⟩ (fun i H hi h => ?_) (fun H h => ?_)
  · obtain ⟨st, tt, xs, e, l, r⟩ := h
    refine ⟨hw _, c_yes ?_⟩
    rw [if_pos rfl]
    rw [Int.zero_add]
    refine hs i H _ hi st tt fun y H4 s4 t4 ry => ?_
    have e4 := s4 _ _ e fun ps z => by cases z
    exact ⟨xs, e4, szl (by omega), extN_put (ExtN.trans st s4) nD, tabs_put t4 (.inl e4), Acc.put l r ry⟩
  · obtain ⟨st, tt, xs, e, l, r⟩ := h
    exact hd H xs st tt e l r
end
theorem Pool.neS {p f : Addr} {H : Hp} {ns : List Str} (q : Pool H p) (e : H f = some (.lst (ns.map V.str))) : p ≠ f := fun z => by
  obtain ⟨a, b, c, e2, _⟩ := q
  rw [z, e] at e2
  have := HO.lst.inj (Option.some.inj e2)
  cases ns with
  | nil => cases this
  | cons x r => cases this
end Und
namespace Und
open PySem PySem.Spec PyProof.Rows L2
/-- x is b, of an int or a truth value -/
def rIsBV : R2 := fun x y H Q => ∃ b : Bool, y = .bl b ∧ ((∃ a : Bool, x = .bl a ∧ Q (.bl (decide (a = b))) H) ∨ ∃ i : Int, x = .int i ∧ Q (.bl false) H)
theorem opIsBV {X : Cx} : OpR X (compareOp .Is) rIsBV := by
  intro pins s σ H x y v u Q I rx ry h
  obtain ⟨b, rfl, h⟩ := h
  cases (show u = Value.bool b from ry)
  rcases h with ⟨a, rfl, q⟩ | ⟨i, rfl, q⟩
  · cases (show v = Value.bool a from rx)
    by_cases e : a = b
    · subst e
      exact wpAny_is_self rfl ⟨.bl true, H, I, rfl, by simpa using q⟩
    · exact wpAny_is_other rfl (fun z => e (Value.bool.inj z)) ⟨.bl false, H, I, rfl, by simpa [e] using q⟩
  · obtain ⟨t, rfl⟩ := rx
    exact wpAny_is_other rfl (fun z => by cases z) ⟨.bl false, H, I, rfl, q⟩
theorem c_isBI {b : Bool} {i : Int} {H : Hp} {Q : VK} (q : Q (.bl false) H) : rIsBV (.int i) (.bl b) H Q := ⟨b, rfl, .inr ⟨i, rfl, q⟩⟩
theorem c_isBB {a b : Bool} {H : Hp} {Q : VK} (q : Q (.bl (decide (a = b))) H) : rIsBV (.bl a) (.bl b) H Q := ⟨b, rfl, .inl ⟨a, rfl, q⟩⟩
end Und
namespace Und
open PySem PySem.Spec PyProof.Rows L2
theorem opRepT {X : Cx} {K : PySem.W.Frag} (h : X.K = K := by rfl) : OpR X (binaryOp .Mult) (rRepT K) := h ▸ op_repT
theorem c_repT {K : PySem.W.Frag} {a : Addr} {xs : List V} {k : Nat} {H : Hp} {Q : VK} (e : SqT K H a xs) (h0 : xs ≠ []) (h1 : 2 ≤ k ∧ k ≤ 1000) (h2 : xs.length ≤ 1000) (h : ∀ p H2, Same H H2 → H2 p = some (.tup (List.replicate k xs).flatten) → Q (.ref p) H2) : rRepT K (.ref a) (.int (k : Int)) H Q :=
  ⟨a, k, xs, rfl, rfl, e, h0, by omega, by omega, h2, fun p np => h p _ (same_new np) (by rw [upd_same]; rfl)⟩
theorem c_repL {a : Addr} {xs : List V} {k : Nat} {H : Hp} {Q : VK} (e : H a = some (.lst xs)) (h1 : k ≤ 1000 ∧ xs.length ≤ 1000) (h : ∀ p H2, Same H H2 → H2 p = some (.lst (List.replicate k xs).flatten) → Q (.ref p) H2) : rRep (.ref a) (.int (k : Int)) H Q :=
  ⟨a, k, xs, rfl, rfl, e, by omega, by omega, Nat.le_trans (Nat.mul_le_mul h1.2 h1.1) (by decide), fun p np => h p _ (same_new np) (by rw [upd_same]; rfl)⟩
end Und
/-! defs with *names and one keyword-only parameter that has a default; classes made by them -/
namespace Und
open PySem PySem.Spec PyProof.Rows L2
/-- a def f(a, .., *v, q=d): what stands behind the top, and what its two kinds of calls bind -/
structure FunSK (K : PySem.W.Frag) (name qual : Str) (st : Stmt) (ps : List Str) (q pv : Str) (dv : V) (f : Addr) : Prop where
  ex : ∃ (oc : Value) (od : Option Addr) (doc pm : Value) (D : Addr) (an : Option Addr) (cdv ct : Value) (osl : Array (Option Value)) (d : Value),
    K.lookup f = some ⟨oc, od, .func (PySem.W.fnOf name qual (defArgs st) (defBody st) (defScope st) .none (.ref D) doc pm an cdv ct), osl⟩ ∧ PySem.W.codeIn K cdv qual = true ∧ PySem.W.nsIn K D q = some (some d) ∧ RelV dv d ∧
    (∀ us rest : List Value, us.length = ps.length → ∃ (β γ : Type) (k1 : Option Value → Sem β) (k2 : β → Sem γ) (k3 : γ → Sem (List (Str × Value))) (a : β),
      bindArgs (PySem.W.fnOf name qual (defArgs st) (defBody st) (defScope st) .none (.ref D) doc pm an cdv ct) ⟨us ++ rest, []⟩ = ((nsGet D q >>= k1) >>= k2) >>= k3 ∧ k1 (some d) = pure a ∧
      (k2 a >>= k3) = (newTuple rest >>= fun t => pure (ps.zip us ++ [(q, d), (pv, t)]))) ∧
    (∀ (us : List Value) (v : Value), us.length = ps.length → bindArgs (PySem.W.fnOf name qual (defArgs st) (defBody st) (defScope st) .none (.ref D) doc pm an cdv ct) ⟨us, [(q, v)]⟩ = (newTuple [] >>= fun t => pure (ps.zip us ++ [(q, v), (pv, t)])))
  kp : PySem.W.keepIn K (.ref f) = true
def spStarK (n : Nat) (dv : V) (sp : Sp) : Sp := fun vs H Q E => ∃ ws rest, vs = ws ++ rest ∧ ws.length = n ∧ rest.length ≤ sizeLine ∧ ∀ p, H p = none → sp (ws ++ [dv, V.ref p]) (upd H p (.tup rest)) Q E
def spStarKW (n : Nat) (sp : Sp) : Sp := fun vs H Q E => ∃ ws x, vs = ws ++ [x] ∧ ws.length = n ∧ ∀ p, H p = none → sp (ws ++ [x, V.ref p]) (upd H p (.tup [])) Q E
/-- called with positional values and the one keyword -/
def FnRK (P : Program) (w : World) (K : PySem.W.Frag) (mg : Str → Option Value) (base : Heap) (CX : CXT) (k : Nat) (f : Addr) (q : Str) (sp : Sp) : Prop :=
  ∀ (A : Around) (outer : List Env) (s : Shared) (H : Hp) (us : List Value) (v : Value) (vs : List V) (x : V) (Q : VK) (E : XK), Room k A → Env0 P w K mg base A outer s H → Vals vs us → RelV x v → sp (vs ++ [x]) H Q E →
    codeAny (model P w) A (.call (.ref f) ⟨us, [(q, v)]⟩) (CR CX outer P w H s Q E) s
section
variable {P : Program} {w : World} {K : PySem.W.Frag} {mg : Str → Option Value} {base : Heap}
theorem FunSK.ok {name qual q pv : Str} {st : Stmt} {ps N : List Str} {dv : V} {f : Addr} {k : Nat} {sp : Sp} (F : FunSK K name qual st ps q pv dv f) (S : FnScope N (ps ++ [q, pv]) (defScope st))
    (hbody : ∀ (cdv : Value) (A : Around) (outer : List Env) (s : Shared) (H : Hp) (vs : List V) (Q : VK) (E : XK), Room k (A.deeper (envOfC qual (defScope st) s.heap.objs.size f cdv)) → sp vs H Q E →
      ∃ t, PSs (cxOf CX0 P w K mg base N qual (defScope st) f cdv A outer s H E).nox (defBody st) t ∧ t { nx := fun _ H' => Q .non H', rt := Q } (start N vs) H) :
    FnR P w K mg base CX0 (k + 1) f (spStarK ps.length dv sp) ∧ FnRK P w K mg base CX0 (k + 1) f q (spStarKW ps.length sp) := by
  obtain ⟨oc, od, doc, pm, D, an, cdv, ct, osl, d, lk, hcd, hd, rd, hA, hB⟩ := F.ex
  have body : ∀ (A : Around) (outer : List Env) (s : Shared) (H : Hp) (vs : List V) (Q : VK) (E : XK), Room k (A.deeper (envOfC qual (defScope st) s.heap.objs.size f cdv)) → sp vs H Q E →
      ∃ t, PSs (cxOf CX0 P w K mg base N qual (defScope st) f cdv A outer s H E) (defBody st) t ∧ t { nx := fun _ H' => Q .non H', rt := Q } (start N vs) H := fun A outer s H vs Q E hr hsp => by
    obtain ⟨t, h, q⟩ := hbody cdv A outer s H vs Q E hr hsp
    exact ⟨t, h.nox, q⟩
  refine ⟨fun A outer s H us vs Q E hr e0 r hsp => ?_, fun A outer s H us v vs x Q E hr e0 r rx hsp => ?_⟩
  · obtain ⟨ws, rest, ev, hl, hz, hq⟩ := hsp
    subst ev
    obtain ⟨u1, u2, eu, r1, r2⟩ := StX.vals_split r
    subst eu
    have hn : H s.heap.objs.size = Option.none := e0.hok.fresh (Nat.le_refl _)
    have hl1 : u1.length = ps.length := by rw [← r1.length]; exact hl
    have hl2 : u2.length ≤ sizeLine := by rw [← r2.length]; exact hz
    refine StX.run_bnd lk hcd S hr e0 (G := fun xs H2 => ∃ p, H p = Option.none ∧ xs = ws ++ [dv, V.ref p] ∧ H2 = upd H p (.tup rest)) (fun A' Ex Q' h => ?_) fun s2 H2 xs ⟨p, hp, ex, eH⟩ hr' => ?_
    · obtain ⟨β, γ, k1, k2, k3, a, e1, e2, e3⟩ := hA u1 u2 hl1
      have KX : K.In s.heap := e0.mod.kin.keeps fun b o e => (e0.bs b o e).1
      have L : PySem.W.Looks (model P w) s.heap (nsGet D q >>= k1) a := (PySem.W.looks_nsIn KX hd).andThen (PySem.W.Looks.of_pure e2)
      rw [e1, bind_assoc]
      refine wpAny_bind (L.here ?_)
      show wpAny (model P w) A' (k2 a >>= k3) Q' Ex s
      rw [e3]
      refine wpAny_bind (wpAny_newTuple (wpAny_pure ?_) hl2)
      have new : ObjOk P w (upd H s.heap.objs.size (.tup rest)) (s.heap.push ({ cls := .type "tuple", data := .seq u2.toArray } : Obj)) s.heap.objs.size (.tup rest) := ⟨hz, u2, r2, ⟨_, Heap.get?_push_size _ rfl, rfl, _, rfl⟩⟩
      have un := StX.un_laid (fs := frs outer) (s := s) (o := ({ cls := .type "tuple", data := .seq u2.toArray } : Obj)) (u := .tup rest) hn
      have z := h _ _ (ws ++ [dv, V.ref s.heap.objs.size]) (u1 ++ [d, Value.ref s.heap.objs.size]) (StX.env0_laid e0 new) un rfl (fun e s' z => z) (r1.append (.cons rd (.cons rfl .nil)))
        (by rw [List.length_append, List.length_append, hl] <;> rfl) ⟨_, hn, rfl, rfl⟩
      rw [List.zip_append hl1.symm] at z
      exact z
    · subst ex eH
      exact body A outer s2 _ _ Q E hr' (hq p hp)
  · obtain ⟨ws, y, ev, hl, hq⟩ := hsp
    obtain ⟨rfl, e2⟩ := List.append_inj' ev rfl
    obtain rfl : x = y := by simpa using e2
    have hn : H s.heap.objs.size = Option.none := e0.hok.fresh (Nat.le_refl _)
    have hl1 : us.length = ps.length := by rw [← r.length]; exact hl
    refine StX.run_bnd lk hcd S hr e0 (G := fun xs H2 => ∃ p, H p = Option.none ∧ xs = vs ++ [x, V.ref p] ∧ H2 = upd H p (.tup [])) (fun A' Ex Q' h => ?_) fun s2 H2 xs ⟨p, hp, ex, eH⟩ hr' => ?_
    · rw [hB us v hl1]
      refine wpAny_bind (wpAny_newTuple (wpAny_pure ?_) (Nat.zero_le _))
      have new : ObjOk P w (upd H s.heap.objs.size (.tup [])) (s.heap.push ({ cls := .type "tuple", data := .seq #[] } : Obj)) s.heap.objs.size (.tup []) := ⟨Nat.zero_le _, [], .nil, ⟨_, Heap.get?_push_size _ rfl, rfl, _, rfl⟩⟩
      have un := StX.un_laid (fs := frs outer) (s := s) (o := ({ cls := .type "tuple", data := .seq #[] } : Obj)) (u := .tup []) hn
      have z := h _ _ (vs ++ [x, V.ref s.heap.objs.size]) (us ++ [v, Value.ref s.heap.objs.size]) (StX.env0_laid e0 new) un rfl (fun e s' z => z) (r.append (.cons rx (.cons rfl .nil)))
        (by rw [List.length_append, List.length_append, hl] <;> rfl) ⟨_, hn, rfl, rfl⟩
      rw [List.zip_append hl1.symm] at z
      exact z
    · subst ex eH
      exact body A outer s2 _ _ Q E hr' (hq p hp)
end
/-- C(q = e): a new instance and its dict, then __init__ -/
def rMkRK (C : Addr) (sp : Sp) (E : XK) (vs : List V) (H : Hp) (Q : VK) : Prop := ∃ z, vs = [z] ∧ ∀ x dx, H x = none → H dx = none → dx ≠ x → sp [V.ref x, z] (upd (upd H dx (.own x)) x (.ins C dx [])) (fun v H2 => v = .non ∧ Q (.ref x) H2) E
def tMakeRK (C : Addr) (sp : Sp) (E : XK) (t : TA) : TE := fun σ H Q => t σ H fun vs H1 => rMkRK C sp E vs H1 Q
theorem c_makeRK {C : Addr} {sp : Sp} {E : XK} {t : TA} {σ : L2.St} {H : Hp} {Q : VK} (h : t σ H fun vs H1 => rMkRK C sp E vs H1 Q) : tMakeRK C sp E t σ H Q := h
section
variable {X : Cx} {CX : CXT} {k : Nat} {f C : Addr} {sp : Sp} {E : XK} {x q : Str} {kws : List Keyword} {tk : TA} {p pos : Pos}
theorem run_makeRK {pins : List (Addr × Obj)} {σ : L2.St} {H : Hp} {s : Shared} {Q : VK} {z : V} {v : Value} (M : Mk X.K C f) (F : FnRK X.prog X.w X.K X.mg X.base CX k f q sp) (hr : Room (k + 1) X.A) (hx : Passes CX X E) (I : Inv X pins σ H s) (rz : RelV z v)
    (h : ∀ x dx, H x = Option.none → H dx = Option.none → dx ≠ x → sp [V.ref x, z] (upd (upd H dx (.own x)) x (.ins C dx [])) (fun v H2 => v = .non ∧ Q (.ref x) H2) E) :
    wpAny (model X.prog X.w) X.A (call (.ref C) [] [(q, v)]) (EP X pins σ Q) X.xe s := by
  have hq := h (s.heap.objs.size + 1) s.heap.objs.size (I.hok.fresh (Nat.le_succ _)) (I.hok.fresh (Nat.le_refl _)) (Nat.ne_of_lt (Nat.lt_succ_self _))
  have I2 := Inv.made (C := C) I
  have r2 : Vals [V.ref (s.heap.objs.size + 1)] [Value.ref (s.heap.objs.size + 1)] := .cons rfl .nil
  refine wpAny_call (make_map (f := f) I.kIn M.makes M.init (beq_iff_eq.mp M.fn) (codeAny_mono (F _ X.stack _ _ [Value.ref (s.heap.objs.size + 1)] v [V.ref (s.heap.objs.size + 1)] z _ E (hr.make C [] [(q, v)]) (I2.env0.make C [] [(q, v)]) r2 rz hq) fun r s' hq' => ?_))
  cases r with
  | error e => exact hx pins σ _ _ e s' I2 hq'
  | ok fl =>
    cases fl with
    | ret u =>
      obtain ⟨v, H', I3, rv, ev, q3⟩ := I2.after hq'
      subst ev
      exact ⟨rv, ⟨V.ref (s.heap.objs.size + 1), H', I3, rfl, q3⟩⟩
    | next => exact False.elim hq'
    | brk => exact False.elim hq'
    | cont => exact False.elim hq'
theorem pe_makeRK (M : Mk X.K C f) (F : FnRK X.prog X.w X.K X.mg X.base CX k f q sp) (hr : Room (k + 1) X.A) (hg : Gl X x) (hm : X.mg x = some (.ref C)) (hx : Passes CX X E) (hkw : PK X kws tk)
    (hall : (backToKw pos (keywordEach kws X.env)).all (·.1.isSome) = true := by rfl) (hks : (backToKw pos (keywordEach kws X.env)).filterMap (·.1) = [q] := by rfl) (hdb : (x == ("__debug__" : Str)) = false := by decide)
    (hpl : ((backTo pos (starEach [] X.env)).any (·.1) || (backToKw pos (keywordEach kws X.env)).any (·.1.isNone)) = false := by rfl) :
    PE X (.Call (.Name x p) [] kws pos) (tMakeRK C sp E tk) := by
  refine ⟨fun pins s σ H Q I h => ?_⟩
  refine wpAny_Call_Name_kw (ld_glob I hg hm ?_ hdb)
  refine PySem.W.callWith_KW0 (h₀ := X.base) I.ok.mod.kin M.kp hall ?_ hpl
  refine thn (hkw.run pos pins s σ H _ I h) fun ws s2 ⟨zs, H2, I2, rz, z, ez, q2⟩ => ⟨I2.kIn, ?_⟩
  subst ez
  obtain ⟨v, rfl, rv⟩ := vals1 rz
  rw [hks]
  exact run_makeRK M F hr hx I2 rv q2
end
/-- what a def with one parameter ahead binds -/
theorem bindK1 {B : List Value → Sem (List (Str × Value))} {p1 q pv : Str} {d : Value} {D : Addr}
    (h0 : ∀ a, ∃ (β γ : Type) (k1 : Option Value → Sem β) (k2 : β → Sem γ) (k3 : γ → Sem (List (Str × Value))) (b : β), B [a] = ((nsGet D q >>= k1) >>= k2) >>= k3 ∧ k1 (some d) = pure b ∧ (k2 b >>= k3) = (newTuple [] >>= fun t => pure [(p1, a), (q, d), (pv, t)]))
    (h1 : ∀ a r rs, ∃ (β γ : Type) (k1 : Option Value → Sem β) (k2 : β → Sem γ) (k3 : γ → Sem (List (Str × Value))) (b : β), B (a :: r :: rs) = ((nsGet D q >>= k1) >>= k2) >>= k3 ∧ k1 (some d) = pure b ∧ (k2 b >>= k3) = (newTuple (r :: rs) >>= fun t => pure [(p1, a), (q, d), (pv, t)])) :
    ∀ us rest : List Value, us.length = [p1].length → ∃ (β γ : Type) (k1 : Option Value → Sem β) (k2 : β → Sem γ) (k3 : γ → Sem (List (Str × Value))) (b : β), B (us ++ rest) = ((nsGet D q >>= k1) >>= k2) >>= k3 ∧ k1 (some d) = pure b ∧
      (k2 b >>= k3) = (newTuple rest >>= fun t => pure ([p1].zip us ++ [(q, d), (pv, t)]))
  | [a], [], _ => h0 a
  | [a], r :: rs, _ => h1 a r rs
theorem bindK1w {B : List Value → Value → Sem (List (Str × Value))} {p1 q pv : Str} (h : ∀ a v, B [a] v = (newTuple [] >>= fun t => pure [(p1, a), (q, v), (pv, t)])) :
    ∀ (us : List Value) (v : Value), us.length = [p1].length → B us v = (newTuple [] >>= fun t => pure ([p1].zip us ++ [(q, v), (pv, t)]))
  | [a], v, _ => h a v
end Und
/-! C(k = v, ..) without positional values; star methods that raise -/
namespace Und
open PySem PySem.Spec PyProof.Rows L2
/-- keywords in any order, defaults for what lacks -/
structure KwD (K : PySem.W.Frag) (fd : FuncData) (ps : List Str) (n : Nat) (ks : List Str) (dvs : List V) (g : {α : Type} → List α → List α → List α → List α) : Prop where
  ex : ∃ its : List Value, KBn K fd ps n ks (fun us ws => g us its ws) (fun vs zs => g vs dvs zs)
def g2r {α : Type} (vs _ zs : List α) : List α := match vs, zs with
  | [s], [b, a] => [s, a, b]
  | _, _ => []
def g2f {α : Type} (vs ds zs : List α) : List α := match vs, ds, zs with
  | [s], [d, _], [b] => [s, d, b]
  | _, _, _ => []
theorem g2r_rel {vs ds zs : List V} {us its ws : List Value} (h1 : Vals vs us) (h2 : Vals ds its) (h3 : Vals zs ws) : Vals (g2r vs ds zs) (g2r us its ws) := by
  cases h1 with
  | nil => exact .nil
  | cons r t =>
    cases t with
    | nil =>
      cases h3 with
      | nil => exact .nil
      | cons r2 t2 =>
        cases t2 with
        | nil => exact .nil
        | cons r3 t3 =>
          cases t3 with
          | nil => exact .cons r (.cons r3 (.cons r2 .nil))
          | cons _ _ => exact .nil
    | cons _ _ => exact .nil
theorem g2f_rel {vs ds zs : List V} {us its ws : List Value} (h1 : Vals vs us) (h2 : Vals ds its) (h3 : Vals zs ws) : Vals (g2f vs ds zs) (g2f us its ws) := by
  cases h1 with
  | nil => exact .nil
  | cons r t =>
    cases t with
    | cons _ _ => exact .nil
    | nil =>
      cases h2 with
      | nil => exact .nil
      | cons q u =>
        cases u with
        | nil => exact .nil
        | cons q2 u2 =>
          cases u2 with
          | cons _ _ => exact .nil
          | nil =>
            cases h3 with
            | nil => exact .nil
            | cons r2 t2 =>
              cases t2 with
              | nil => exact .cons r (.cons q (.cons r2 .nil))
              | cons _ _ => exact .nil
section
variable {X : Cx} {CX : CXT} {k : Nat} {f C : Addr} {fd : FuncData} {ps ks : List Str} {sp : Sp} {E : XK} {x : Str} {p pos : Pos} {kws : List Keyword} {tk : TA} {dvs : List V} {g : {α : Type} → List α → List α → List α → List α}
def rMkK (C : Addr) (m : Nat) (sp : Sp) (dvs : List V) (g : {α : Type} → List α → List α → List α → List α) (E : XK) (zs : List V) (H : Hp) (Q : VK) : Prop := zs.length = m ∧ ∀ x dx, H x = none → H dx = none → dx ≠ x → sp (g [.ref x] dvs zs) (upd (upd H dx (.own x)) x (.ins C dx [])) (fun v H3 => v = .non ∧ Q (.ref x) H3) E
def tMkK (C : Addr) (m : Nat) (sp : Sp) (dvs : List V) (g : {α : Type} → List α → List α → List α → List α) (E : XK) (tk : TA) : TE := fun σ H Q => tk σ H fun zs H1 => rMkK C m sp dvs g E zs H1 Q
theorem c_mkK {σ : L2.St} {H : Hp} {Q : VK} {m : Nat} (h : tk σ H fun zs H1 => rMkK C m sp dvs g E zs H1 Q) : tMkK C m sp dvs g E tk σ H Q := h
theorem pe_makeK0 (M : Mk X.K C f) (F : FnOk X.prog X.w X.K X.mg X.base CX k f fd ps sp) (hr : Room (k + 1) X.A) (hg : Gl X x) (hm : X.mg x = some (.ref C)) (hb : KwD X.K fd ps 1 ks dvs g) (hx : Passes CX X E) (hkw : PK X kws tk)
    (hdb : (x == ("__debug__" : Str)) = false := by decide) (hall : (backToKw pos (keywordEach kws X.env)).all (·.1.isSome) = true := by rfl) (hks : (backToKw pos (keywordEach kws X.env)).filterMap (·.1) = ks := by rfl)
    (hpl : ((backTo pos (starEach [] X.env)).any (·.1) || (backToKw pos (keywordEach kws X.env)).any (·.1.isNone)) = false := by rfl) :
    PE X (.Call (.Name x p) [] kws pos) (tMkK C ks.length sp dvs g E tk) := by
  obtain ⟨its, hb⟩ := hb.ex
  refine ⟨fun pins s σ H Q I h => ?_⟩
  refine wpAny_Call_Name_kw (ld_glob I hg hm ?_ hdb)
  refine PySem.W.callWith_KW0 (first := []) (h₀ := X.base) I.ok.mod.kin M.kp hall (thn (hkw.run pos pins s σ H _ I h) fun ws s2 ⟨zs, H2, I2, rz, l2, q2⟩ => ⟨I2.kIn, ?_⟩) hpl
  rw [hks]
  exact run_makeN (n := 0) (us := []) M F hr hb hx I2 .nil rz rfl l2 q2
end
section
variable {X : Cx} {CX : CXT} {k : Nat} {C g p : Addr} {mc : Value} {sp : Sp} {E : XK} {o : Expr} {m : Str} {pos apos : Pos} {ta : TE} {pl : Sem Bool}
/-- C.m(), m a class method -/
theorem pe_cmeth0 (he : PE X o ta) (r : ClX.CRead X.K C mc) (c : ClX.CMet X.K C mc m p g) (F : FnR X.prog X.w X.K X.mg X.base CX k g sp) (hr : Room k X.A) (hx : Passes CX X E)
    (ht : eval (.Call (.Attribute o m apos) [] [] pos) X.env = (do
      let ov ← eval o X.env
      standAt apos.atName
      let (f, first) ← holding [ov] (getMethod ov m pl)
      callWith pos f first (backTo pos (starEach [] X.env)) (backToKw pos (keywordEach [] X.env))) := by rfl) : PE X (.Call (.Attribute o m apos) [] [] pos) (ClX.tCMeth C sp E ta tNil) := by
  constructor
  intro pins s σ H Q I h
  refine PySem.W.methodCall_KW (pl := pl) (thn (he.run pins s σ H _ I h) ?_) ht
  rintro u s1 ⟨x, H1, I1, rx, rfl, q⟩
  obtain rfl : u = Value.ref C := rx
  refine ClX.getmethcm_ok I1 r c fun s2 I2 => ?_
  refine PySem.W.callWith_M0 (first := []) ⟨ClX.pin_at I2, I2.kIn⟩ c.fi ?_
  exact ClX.run_cm (us := []) (vs := []) F hr hx I2 .nil q
end
section
variable {P : Program} {w : World} {K : PySem.W.Frag} {mg : Str → Option Value} {base : Heap}
/-- FunS.ok where something is raised -/
theorem FunS.okX {name qual pv : Str} {st : Stmt} {ps N : List Str} {f : Addr} {k : Nat} {sp : Sp} (F : FunS K name qual st ps pv f) (S : FnScope N (ps ++ [pv]) (defScope st))
    (hbody : ∀ (cdv : Value) (A : Around) (outer : List Env) (s : Shared) (H : Hp) (vs : List V) (Q : VK) (E : XK), Room k (A.deeper (envOfC qual (defScope st) s.heap.objs.size f cdv)) → sp vs H Q E →
      ∃ t, PSs (cxOf (L2.CX P w) P w K mg base N qual (defScope st) f cdv A outer s H E) (defBody st) t ∧ t { nx := fun _ H' => Q .non H', rt := Q } (start N vs) H) : FnR P w K mg base (L2.CX P w) (k + 1) f (spStar ps.length sp) := by
  obtain ⟨oc, od, dV, kV, doc, pm, an, cdv, ct, osl, lk, hcd, hb⟩ := F.ex
  exact StX.fn_star lk hcd S StX.cxUp hb fun A outer s H vs Q E hr hsp => hbody cdv A outer s H vs Q E hr hsp
end
end Und
namespace Und
open PySem PySem.Spec PyProof.Rows L2 LamX
/-! ### what stays where tables grow -/
section
variable {K : PySem.W.Frag} {H H' : Hp} {v : V}
theorem tyx_extN {t : Value} (s : ExtN H H') (h : TyX K H v t) : TyX K H' v t := by
  cases h with
  | base b =>
    cases b with
    | non => exact .base .non
    | bl y => exact .base (.bl y)
    | int y => exact .base (.int y)
    | str y => exact .base (.str y)
    | flt y => exact .base (.flt y)
    | lst e => exact .base (.lst (s _ _ e fun ps z => by cases z))
    | frz e => exact .base (.frz (s _ _ e fun ps z => by cases z))
    | tup e => exact .base (.tup (s _ _ e fun ps z => by cases z))
    | dK e => exact .base (.dK (s _ _ e fun ps z => by cases z))
    | dT e => exact .base (.dT (s _ _ e fun ps z => by cases z))
    | ins e a b c d f => exact .base (.ins (s _ _ e fun ps z => by cases z) a b c d f)
  | byt y => exact .byt y
  | set e => exact .set (s _ _ e fun ps z => by cases z)
  | kList a b => exact .kList a b
  | kTuple a b => exact .kTuple a b
  | kDict a b => exact .kDict a b
  | fTuple e => exact .fTuple (s _ _ e fun ps z => by cases z)
  | fDict e => exact .fDict (s _ _ e fun ps z => by cases z)
theorem rp_of {a : Addr} {d : PyData} {n m : Nat} (hd : Dp K H (.ref a) d) (ok : DOk d n) (ln : n ≤ 32) (sh : Shw d m) (lm : m ≤ 10000000) : Rp K H (.ref a) d.shown := .dat a d hd sh.1 (PyData.hasDict_of_canLay d ok.lay) (Nat.le_trans ok.dep ln) (Nat.le_trans sh.2 (Nat.le_trans lm (by decide)))
theorem dok_pair {d e : PyData} (h : DOk d 0) (g : DOk e 0) : DOk (.list [d, e]) 1 := (dok_list (n := 0) fun x hx => by
  simp only [List.mem_cons, List.not_mem_nil, or_false] at hx
  rcases hx with rfl | rfl
  · exact h
  · exact g).1
theorem pool_stay {o : HO} {p a : Addr} (q : Pool H p) (st : Stp p H H') (e : H a = some o) (no : ∀ l, o ≠ .lst l) : H' a = some o := by
  refine st.at e fun z => ?_
  obtain ⟨x, y, c, e2, _⟩ := q
  rw [z, e] at e2
  exact no _ (Option.some.inj e2)
theorem pool_stayT {p t : Addr} {xs : List V} (q : Pool H p) (st : Stp p H H') (h : SqT K H t xs) : SqT K H' t xs := by
  rcases h with (h | ⟨o, h⟩) | h
  · exact .inl (.inl (pool_stay q st h (by intro l z; cases z)))
  · exact .inl (.inr ⟨o, pool_stay q st h (by intro l z; cases z)⟩)
  · exact .inr h
end
end Und
/-! values of any kind: data with empty dicts, lists that are no pools -/
namespace Und
open PySem PySem.Spec PyProof.Rows L2 LamX
open L2H (RoomH)
mutual
inductive De (K : PySem.W.Frag) (H : Hp) : V → PyData → Prop
  | non : De K H .non .none
  | bl (b : Bool) : De K H (.bl b) (.bool b)
  | int (i : Int) : De K H (.int i) (.int i)
  | str (x : Str) : De K H (.str x) (.str x)
  | lst {a : Addr} {xs : List V} {ds : List PyData} : H a = some (.lst xs) → xs.length ≤ 2 → a ≠ sysModules → DeAll K H xs ds → De K H (.ref a) (.list ds)
  | tup {a : Addr} {xs : List V} {ds : List PyData} : SqT K H a xs → DeAll K H xs ds → De K H (.ref a) (.tuple ds)
  | emp {a : Addr} : H a = some (.dK []) → De K H (.ref a) (.dict [])
inductive DeAll (K : PySem.W.Frag) (H : Hp) : List V → List PyData → Prop
  | nil : DeAll K H [] []
  | cons {v : V} {vs : List V} {d : PyData} {ds : List PyData} : De K H v d → DeAll K H vs ds → DeAll K H (v :: vs) (d :: ds)
end
/-- what a value of any kind may stand on stays -/
structure Keep2 (K : PySem.W.Frag) (H H' : Hp) : Prop where
  l : ∀ a xs, H a = some (.lst xs) → xs.length ≤ 2 → H' a = some (.lst xs)
  t : ∀ a xs, SqT K H a xs → SqT K H' a xs
  d : ∀ a, H a = some (.dK []) → H' a = some (.dK [])
section
variable {K : PySem.W.Frag} {H H' : Hp}
mutual
theorem De.keep (s : Keep2 K H H') : ∀ (d : PyData) (v : V), De K H v d → De K H' v d
  | .none, _, h => by
    cases h
    exact .non
  | .bool b, _, h => by
    cases h
    exact .bl b
  | .int i, _, h => by
    cases h
    exact .int i
  | .str x, _, h => by
    cases h
    exact .str x
  | .list ds, _, h => by
    cases h with
    | lst a b c e => exact .lst (s.l _ _ a b) b c (DeAll.keep s ds _ e)
  | .tuple ds, _, h => by
    cases h with
    | tup a e => exact .tup (s.t _ _ a) (DeAll.keep s ds _ e)
  | .dict ks, _, h => by
    cases h with
    | emp a => exact .emp (s.d _ a)
theorem DeAll.keep (s : Keep2 K H H') : ∀ (ds : List PyData) (vs : List V), DeAll K H vs ds → DeAll K H' vs ds
  | [], _, h => by
    cases h
    exact .nil
  | d :: ds, _, h => by
    cases h with
    | cons a b => exact .cons (De.keep s d _ a) (DeAll.keep s ds _ b)
end
theorem keep2_same (s : Same H H') : Keep2 K H H' := ⟨fun a xs e _ => s _ _ e, fun a xs e => same_seqT s e, fun a e => s _ _ e⟩
theorem keep2_ext (s : ExtN H H') : Keep2 K H H' := ⟨fun a xs e _ => s _ _ e fun ps z => (by cases z), fun a xs e => ExtN.seqT s e, fun a e => s _ _ e fun ps z => (by cases z)⟩
theorem keep2_stp {p : Addr} (q : Pool H p) (s : Stp p H H') : Keep2 K H H' := ⟨fun a xs e l => s.at e fun z => (by
  obtain ⟨x, y, c, e2, _⟩ := q
  rw [z, e] at e2
  have := congrArg List.length (HO.lst.inj (Option.some.inj e2))
  simp at this
  omega), fun a xs e => pool_stayT q s e, fun a e => pool_stay q s e fun l z => (by cases z)⟩
theorem De.mono {v : V} {d : PyData} (s : Same H H') (h : De K H v d) : De K H' v d := De.keep (keep2_same s) d v h
theorem De.ext {v : V} {d : PyData} (s : ExtN H H') (h : De K H v d) : De K H' v d := De.keep (keep2_ext s) d v h
theorem De.stp {p : Addr} {v : V} {d : PyData} (q : Pool H p) (s : Stp p H H') (h : De K H v d) : De K H' v d := De.keep (keep2_stp q s) d v h
/-- the kind of such a value -/
def kdD : PyData → String
  | .none => "NoneType"
  | .bool _ => "bool"
  | .int _ => "int"
  | .str _ => "str"
  | .list _ => "list"
  | .tuple _ => "tuple"
  | .dict _ => "dict"
theorem De.ty {v : V} {d : PyData} (h : De K H v d) : TyX K H v (.type (kdD d)) := by
  cases h with
  | non => exact .base .non
  | bl b => exact .base (.bl b)
  | int i => exact .base (.int i)
  | str x => exact .base (.str x)
  | lst e _ _ _ => exact .base (.lst e)
  | tup e _ => exact ty_tup e
  | emp e => exact .base (.dK e)
theorem DeAll.len : ∀ {vs : List V} {ds : List PyData}, DeAll K H vs ds → vs.length = ds.length
  | _, _, .nil => rfl
  | _, _, .cons _ t => by rw [List.length_cons, List.length_cons, t.len]
theorem DeAll.at : ∀ {vs : List V} {ds : List PyData} {i : Nat} {v : V}, DeAll K H vs ds → vs[i]? = some v → ∃ d, ds[i]? = some d ∧ De K H v d
  | _, _, _, _, .nil, e => by simp at e
  | _, _, 0, _, .cons h _, e => ⟨_, rfl, Option.some.inj e ▸ h⟩
  | _, _, i + 1, _, .cons _ t, e => t.at (i := i) e
theorem DeAll.of : ∀ {vs : List V}, (∀ v ∈ vs, ∃ d, De K H v d) → ∃ ds, DeAll K H vs ds
  | [], _ => ⟨[], .nil⟩
  | v :: vs, h => by
    obtain ⟨d, hd⟩ := h v List.mem_cons_self
    obtain ⟨ds, hs⟩ := DeAll.of fun u hu => h u (List.mem_cons_of_mem _ hu)
    exact ⟨d :: ds, .cons hd hs⟩
end
/-! ### repr -/
section
variable {X : Cx} {pins : List (Addr × Obj)} {σ : L2.St} {H : Hp} {s : Shared}
mutual
theorem De.reads (I : Inv X pins σ H s) : ∀ (d : PyData) (v : V) (u : Value), De X.K H v d → RelV v u → ∃ as, Reads s.heap u d as ∧ sysModules ∉ as
  | .none, _, _, h, r => by
    cases h
    cases r
    exact ⟨_, Reads.none, by simp⟩
  | .bool b, _, _, h, r => by
    cases h
    cases r
    exact ⟨_, Reads.bool b, by simp⟩
  | .int i, _, _, h, r => by
    cases h
    obtain ⟨t, rfl⟩ := r
    exact ⟨_, Reads.int i t, by simp⟩
  | .str x, _, _, h, r => by
    cases h
    obtain ⟨t, rfl⟩ := r
    exact ⟨_, Reads.str x t, by simp⟩
  | .list ds, _, _, h, r => by
    cases h with
    | lst hs _ ne ha =>
      cases r
      obtain ⟨its, rv, ⟨o, n, ho, hc, _, hd⟩, _⟩ := I.list (.inl (.inl hs))
      obtain ⟨as, hr, hn⟩ := DeAll.reads I ds _ its ha rv
      exact ⟨_, Reads.list ho hc hd hr, fun z => (List.mem_cons.mp z).elim (fun q => ne q.symm) hn⟩
  | .tuple ds, _, _, h, r => by
    cases h with
    | tup hs ha =>
      cases r
      obtain ⟨its, rv, ⟨o, ho, hc, n, hd⟩, _⟩ := I.tuple hs
      obtain ⟨as, hr, hn⟩ := DeAll.reads I ds _ its ha rv
      exact ⟨_, Reads.tuple ho hc hd hr, hn⟩
  | .dict ks, _, u, h, r => by
    cases h with
    | emp ha =>
      obtain rfl : u = Value.ref _ := r
      obtain ⟨_, hsm, vs, kv, o, es, ep, ho, hx, hd, _, hp, _⟩ := dk_of I.hok ha
      have nb := beq_eq_false_iff_ne.mp hsm
      cases kv
      have hes : es.toList = [] := by
        generalize es.toList = l at hp
        cases hp
        rfl
      refine ⟨_, Reads.dict ho hx.1 hd (by rw [hes]; exact .nil) (by rw [hes]; exact .nil), fun z => ?_⟩
      simp only [List.cons_append, List.nil_append, List.append_nil, List.mem_cons, List.not_mem_nil, or_false] at z
      exact nb z.symm
theorem DeAll.reads (I : Inv X pins σ H s) : ∀ (ds : List PyData) (vs : List V) (us : List Value), DeAll X.K H vs ds → Vals vs us → ∃ as, ReadsAll s.heap us ds as ∧ sysModules ∉ as
  | [], _, _, h, r => by
    cases h
    cases r
    exact ⟨_, ReadsAll.nil, by simp⟩
  | d :: ds, _, _, h, r => by
    cases h with
    | cons h1 h2 =>
      cases r with
      | cons r1 r2 =>
        obtain ⟨as, q1, n1⟩ := De.reads I d _ _ h1 r1
        obtain ⟨bs, q2, n2⟩ := DeAll.reads I ds _ _ h2 r2
        exact ⟨_, ReadsAll.cons q1 q2, fun z => (List.mem_append.mp z).elim n1 n2⟩
end
end
/-- repr of a value of any kind -/
def crReprE (K : PySem.W.Frag) : List V → Hp → VK → Prop := fun xs H Q => crReprA K xs H Q ∨ ∃ (a : Addr) (d : PyData), xs = [.ref a] ∧ De K H (.ref a) d ∧ d.showable = true ∧ d.depth ≤ 32 ∧ d.shown.length ≤ sizeLine ∧ Q (.str d.shown) H
theorem crRE {X : Cx} {K : PySem.W.Frag} {k : Nat} (g : Still X.A) (r : RoomH k X.A) (hK : X.K = K := by rfl) : CallR X (.builtin "repr") (crReprE K) := by
  subst hK
  intro pins s σ H xs us Q I v h
  rcases h with h | ⟨a, d, rfl, hd, h1, h3, h4, q⟩
  · exact crRA g r rfl pins s σ H xs us Q I v h
  obtain ⟨u, rfl, ru⟩ := vals1 v
  have un := r.un
  obtain ⟨as, rd, hns⟩ := De.reads I d _ u hd ru
  obtain rfl : u = Value.ref a := ru
  exact repr_of_reads' rd h1 (fun _ => hns) g (by omega) (fun _ _ e => e) (fun h' u tk k => ⟨.str d.shown, H, I.kept k, ⟨u, rfl⟩, q⟩) h4
theorem c_reprE {K : PySem.W.Frag} {v : V} {x : Str} {H : Hp} {Q : VK} (h : Rp K H v x) (q : Q (.str x) H) : crReprE K [v] H Q := .inl (c_reprA h q)
theorem c_reprD {K : PySem.W.Frag} {a : Addr} {d : PyData} {n m : Nat} {H : Hp} {Q : VK} (hd : De K H (.ref a) d) (sh : Shw d m) (ln : d.depth ≤ 32) (lm : m ≤ 10000000) (q : Q (.str d.shown) H) : crReprE K [.ref a] H Q :=
  .inr ⟨a, d, rfl, hd, sh.1, ln, Nat.le_trans sh.2 (Nat.le_trans lm (by decide)), q⟩
section
variable {P : Program} {w : World} {K : PySem.W.Frag} {mg : Str → Option Value} {base : Heap}
/-- FunSK.ok where something is raised, called without its keyword -/
theorem FunSK.okX {name qual q pv : Str} {st : Stmt} {ps N : List Str} {dv : V} {f : Addr} {k : Nat} {sp : Sp} (F : FunSK K name qual st ps q pv dv f) (S : FnScope N (ps ++ [q, pv]) (defScope st))
    (hbody : ∀ (cdv : Value) (A : Around) (outer : List Env) (s : Shared) (H : Hp) (vs : List V) (Q : VK) (E : XK), Room k (A.deeper (envOfC qual (defScope st) s.heap.objs.size f cdv)) → sp vs H Q E →
      ∃ t, PSs (cxOf (L2.CX P w) P w K mg base N qual (defScope st) f cdv A outer s H E) (defBody st) t ∧ t { nx := fun _ H' => Q .non H', rt := Q } (start N vs) H) :
    FnR P w K mg base (L2.CX P w) (k + 1) f (spStarK ps.length dv sp) := by
  obtain ⟨oc, od, doc, pm, D, an, cdv, ct, osl, d, lk, hcd, hd, rd, hA, _⟩ := F.ex
  intro A outer s H us vs Q E hr e0 r hsp
  obtain ⟨ws, rest, ev, hl, hz, hq⟩ := hsp
  subst ev
  obtain ⟨u1, u2, eu, r1, r2⟩ := StX.vals_split r
  subst eu
  have hn : H s.heap.objs.size = Option.none := e0.hok.fresh (Nat.le_refl _)
  have n1 : u1.length = ps.length := r1.length ▸ hl
  have n2 : u2.length ≤ sizeLine := r2.length ▸ hz
  refine StX.run_bnd lk hcd S hr e0 (G := fun xs H2 => ∃ p, H p = Option.none ∧ xs = ws ++ [dv, V.ref p] ∧ H2 = upd H p (.tup rest)) (fun A' Ex Q' h => ?_) fun s2 H2 xs ⟨p, hp, ex, eH⟩ hr' => ?_
  · obtain ⟨β, γ, k1, k2, k3, a, e1, e2, e3⟩ := hA u1 u2 n1
    have L : PySem.W.Looks (model P w) s.heap (nsGet D q >>= k1) a := (PySem.W.looks_nsIn (e0.mod.kin.keeps fun b o e => (e0.bs b o e).1) hd).andThen (PySem.W.Looks.of_pure e2)
    rw [e1, bind_assoc]
    refine wpAny_bind (L.here ?_)
    show wpAny (model P w) A' (k2 a >>= k3) Q' Ex s
    rw [e3]
    refine wpAny_bind (wpAny_newTuple (wpAny_pure ?_) n2)
    have new : ObjOk P w (upd H s.heap.objs.size (.tup rest)) (s.heap.push ({ cls := .type "tuple", data := .seq u2.toArray } : Obj)) s.heap.objs.size (.tup rest) := ⟨hz, u2, r2, ⟨_, Heap.get?_push_size _ rfl, rfl, _, rfl⟩⟩
    have un := StX.un_laid (fs := frs outer) (s := s) (o := ({ cls := .type "tuple", data := .seq u2.toArray } : Obj)) (u := .tup rest) hn
    have z := h _ _ (ws ++ [dv, V.ref s.heap.objs.size]) (u1 ++ [d, Value.ref s.heap.objs.size]) (StX.env0_laid e0 new) un rfl (fun e s' => StX.cxUp outer s H _ _ E e s' un (fun b o q => Heap.get?_push_of_some _ q) rfl) (r1.append (.cons rd (.cons rfl .nil)))
      (by rw [List.length_append, List.length_append, hl] <;> rfl) ⟨_, hn, rfl, rfl⟩
    rw [List.zip_append n1.symm] at z
    exact z
  · subst ex eH
    exact hbody cdv A outer s2 _ _ Q E hr' (hq p hp)
end
end Und
/-! values that a text writes out: read as data, without walking each of them -/
namespace Und
open PySem PySem.Spec PyProof.Rows L2 LamX
/-- what is laid between two heaps -/
def nw (H H' : Hp) : Hp := fun b => if H b = none then H' b else none
theorem nw_at {H H' : Hp} {b : Addr} {o : HO} (n : H b = none) (e : H' b = some o) : nw H H' b = some o := by
  unfold nw
  rw [if_pos n]
  exact e
theorem nw_same {H H' : Hp} : Same (nw H H') H' := fun b o e => by
  unfold nw at e
  by_cases n : H b = none
  · rw [if_pos n] at e
    exact e
  · rw [if_neg n] at e
    cases e
theorem nw_r {H H1 H2 : Hp} (s : Same H1 H2) : Same (nw H H1) (nw H H2) := fun b o e => by
  unfold nw at e ⊢
  by_cases n : H b = none
  · rw [if_pos n] at e ⊢
    exact s _ _ e
  · rw [if_neg n] at e
    cases e
theorem nw_l {H H1 H2 : Hp} (s : Same H H1) : Same (nw H1 H2) (nw H H2) := fun b o e => by
  unfold nw at e ⊢
  by_cases n : H1 b = none
  · rw [if_pos n] at e
    rw [if_pos (s.free n)]
    exact e
  · rw [if_neg n] at e
    cases e
/-- what was laid stays where only a pool is drawn from -/
theorem nw_stp {p : Addr} {H H1 H2 : Hp} (q : Pool H p) (s : Stp p H1 H2) : Same (nw H H1) (nw H H2) := fun b o e => by
  unfold nw at e ⊢
  by_cases n : H b = none
  · rw [if_pos n] at e ⊢
    refine s.at e fun z => ?_
    obtain ⟨x, y, c, ep, _⟩ := q
    rw [z, n] at ep
    cases ep
  · rw [if_neg n] at e
    cases e
/-- what is laid behind B does not stand on B -/
theorem nw_hid {B : Addr} {H H' : Hp} (n : H B ≠ none) : Same (nw H H') (hid B H') := fun b o e => by
  unfold nw at e
  unfold hid
  by_cases k : H b = none
  · rw [if_pos k] at e
    rw [if_neg (fun z : b = B => n (z ▸ k))]
    exact e
  · rw [if_neg k] at e
    cases e
section
variable {K : PySem.W.Frag}
/-- this reading lays a value with this data, and changes nothing else -/
def LitE (K : PySem.W.Frag) (te : TE) (d : PyData) : Prop := ∀ (σ : L2.St) (H : Hp) (Q : VK), (∀ v H', Same H H' → De K (nw H H') v d → Q v H') → te σ H Q
def LitA (K : PySem.W.Frag) (ta : TA) (ds : List PyData) : Prop := ∀ (σ : L2.St) (H : Hp) (Q : List V → Hp → Prop), (∀ vs H', Same H H' → DeAll K (nw H H') vs ds → Q vs H') → ta σ H Q
theorem lit_non : LitE K (tC .non) .none := fun σ H Q h => h _ _ (Same.refl _) .non
theorem lit_bl {b : Bool} : LitE K (tC (.bl b)) (.bool b) := fun σ H Q h => h _ _ (Same.refl _) (.bl b)
theorem lit_int {i : Int} : LitE K (tC (.int i)) (.int i) := fun σ H Q h => h _ _ (Same.refl _) (.int i)
theorem lit_str {x : Str} : LitE K (tC (.str x)) (.str x) := fun σ H Q h => h _ _ (Same.refl _) (.str x)
theorem lit_neg {i : Int} : LitE K (tUn (rU fun i => .int (-i)) (tC (.int i))) (.int (-i)) := fun σ H Q h => ⟨i, rfl, h _ _ (Same.refl _) (.int _)⟩
theorem lit_pow {i j : Int} (c : CPow i j) : LitE K (tOp (rI CPow fun i j => .int (i ^ j.toNat)) (tC (.int i)) (tC (.int j))) (.int (i ^ j.toNat)) := fun σ H Q h => ⟨i, j, rfl, rfl, c, h _ _ (Same.refl _) (.int _)⟩
theorem lit_nil : LitA K tNil [] := fun σ H Q h => h _ _ (Same.refl _) .nil
theorem lit_cons {te : TE} {ta : TA} {d : PyData} {ds : List PyData} (h : LitE K te d) (t : LitA K ta ds) : LitA K (tCons te ta) (d :: ds) := fun σ H Q k =>
  h σ H _ fun v H1 s1 h1 => t σ H1 _ fun vs H2 s2 h2 => k _ _ (s1.trans s2) (.cons (h1.mono (nw_r s2)) (DeAll.keep (keep2_same (nw_l s1)) _ _ h2))
theorem lit_tup {ta : TA} {ds : List PyData} (h : LitA K ta ds) (n : ds.length ≤ 1000) : LitE K (tTup ta) (.tuple ds) := fun σ H Q k =>
  h σ H _ fun vs H1 s1 h1 => c_newT (by have := h1.len; omega) fun p H2 np s2 e2 => k _ _ (s1.trans s2) (.tup (.inl (.inl (nw_at (s1.free np) e2))) (DeAll.keep (keep2_same (nw_r s2)) _ _ h1))
theorem lit_lst {ta : TA} {ds : List PyData} (h : LitA K ta ds) (n : ds.length ≤ 2) : LitE K (tLstB ta) (.list ds) := fun σ H Q k =>
  h σ H _ fun vs H1 s1 h1 => c_newLB (by have := h1.len; omega) fun p H2 np b s2 e2 => k _ _ (s1.trans s2) (.lst (nw_at (s1.free np) e2) (by have := h1.len; omega) b (DeAll.keep (keep2_same (nw_r s2)) _ _ h1))
theorem lit_dic : LitE K tDNewK (.dict []) := fun σ H Q k => c_dnew fun p H2 np s2 e2 => k _ _ s2 (.emp (nw_at np e2))
/-- a list of values written out -/
theorem lit_list {σ : L2.St} {H : Hp} {Q : VK} {ta : TA} {ds : List PyData} (h : LitA K ta ds) (n : ds.length ≤ 1000)
    (k : ∀ F xs H', Same H H' → H F = none → H' F = some (.lst xs) → DeAll K (nw H H') xs ds → Q (.ref F) H') : tLstB ta σ H Q :=
  h σ H _ fun vs H1 s1 h1 => c_newLB (by have := h1.len; omega) fun p H2 np b s2 e2 => k p vs H2 (s1.trans s2) (s1.free np) e2 (DeAll.keep (keep2_same (nw_r s2)) _ _ h1)
theorem lit_listT {σ : L2.St} {H : Hp} {Q : VK} {ta : TA} {ds : List PyData} (h : LitA K ta ds) (n : ds.length ≤ 1000)
    (k : ∀ F xs H', Same H H' → H F = none → H' F = some (.lst xs) → DeAll K (nw H H') xs ds → Q (.ref F) H') : tLst ta σ H Q :=
  h σ H _ fun vs H1 s1 h1 => c_newL (by have := h1.len; omega) fun p H2 np s2 e2 => k p vs H2 (s1.trans s2) (s1.free np) e2 (DeAll.keep (keep2_same (nw_r s2)) _ _ h1)
theorem DeAll.app : ∀ {H : Hp} {xs ys : List V} {ds es : List PyData}, DeAll K H xs ds → DeAll K H ys es → DeAll K H (xs ++ ys) (ds ++ es)
  | _, _, _, _, _, .nil, t => t
  | _, _, _, _, _, .cons h s, t => .cons h (DeAll.app s t)
/-- a list, and behind it a list of values written out -/
theorem lit_cat {σ : L2.St} {H0 H : Hp} {Q : VK} {i : Nat} {F : Addr} {xs : List V} {ta : TA} {ds es : List PyData} (e : σ[i]? = some (some (.ref F))) (s0 : Same H0 H) (eF : H F = some (.lst xs)) (hD : DeAll K (nw H0 H) xs ds) (h : LitA K ta es) (n : ds.length + es.length ≤ 1000)
    (k : ∀ F' ys H', Same H0 H' → H0 F' = none → H' F' = some (.lst ys) → DeAll K (nw H0 H') ys (ds ++ es) → Q (.ref F') H') : tOp rCat (tVar i) (tLstB ta) σ H Q :=
  c_op (c_var e (lit_list h (by omega) fun G ys H1 s1 _ e1 h1 => by
    have l0 := hD.len
    have l1 := h1.len
    refine ⟨F, G, xs, ys, rfl, rfl, s1 _ _ eF, e1, sz (by omega), fun p np => ?_⟩
    have s2 : Same H1 (upd H1 p (.lst (xs ++ ys))) := same_new np
    exact k p _ _ ((s0.trans s1).trans s2) ((s0.trans s1).free np) upd_same (DeAll.app (DeAll.keep (keep2_same (nw_r (s1.trans s2))) _ _ hD) (DeAll.keep (keep2_same ((nw_r s2).trans (nw_l s0))) _ _ h1))))
/-- statements that fill a list with values written out -/
theorem lit_first {σ : L2.St} {H : Hp} {D : Ends} {i : Nat} {ta : TA} {t2 : TS} {ds : List PyData} (h : LitA K ta ds) (n : ds.length ≤ 1000)
    (k : ∀ F xs H', Same H H' → H F = none → H' F = some (.lst xs) → DeAll K (nw H H') xs ds → t2 D (σ.set i (some (.ref F))) H') : tSeq (tAsg (tLstB ta) (gName i)) t2 D σ H :=
  c_seq (c_asg (lit_list h n k))
theorem lit_next {σ : L2.St} {H0 H : Hp} {D : Ends} {i : Nat} {F : Addr} {xs : List V} {ta : TA} {t2 : TS} {ds es : List PyData} (hi : i < σ.length) (s0 : Same H0 H) (eF : H F = some (.lst xs)) (hD : DeAll K (nw H0 H) xs ds) (h : LitA K ta es) (n : ds.length + es.length ≤ 1000)
    (k : ∀ F' ys H', Same H0 H' → H0 F' = none → H' F' = some (.lst ys) → DeAll K (nw H0 H') ys (ds ++ es) → t2 D (σ.set i (some (.ref F'))) H') : tSeq (tAsg (tOp rCat (tVar i) (tLstB ta)) (gName i)) t2 D (σ.set i (some (.ref F))) H :=
  c_seq (c_asg (lit_cat (by rw [List.getElem?_set_self hi]) s0 eF hD h n fun F' ys H' s n e d => by
    show t2 D ((σ.set i (some (.ref F))).set i (some (.ref F'))) H'
    rw [List.set_set]
    exact k F' ys H' s n e d))
theorem DeAll.mem : ∀ {H : Hp} {xs : List V} {ds : List PyData} {i : Nat} {v : V}, DeAll K H xs ds → xs[i]? = some v → ∃ d ∈ ds, De K H v d := fun h e => by
  obtain ⟨d, h1, h2⟩ := h.at e
  exact ⟨d, List.mem_of_getElem? h1, h2⟩
theorem lit_end {f : PyData → Bool} {n : Nat} {H : Hp} {xs : List V} {ds : List PyData} (h : DeAll K H xs ds) (l : ds.length = n) (ok : ds.all f = true) : xs.length = n ∧ ∀ (i : Nat) (v : V), xs[i]? = some v → ∃ d, De K H v d ∧ f d = true :=
  ⟨h.len.trans l, fun i v e => by
    obtain ⟨d, hd, hv⟩ := h.mem e
    exact ⟨d, hv, List.all_eq_true.mp ok d hd⟩⟩
end
end Und
/-! a def f(a, *v) of the module, called with positional values or with its one name -/
namespace Und
open PySem PySem.Spec PyProof.Rows L2
/-- what stands behind the top, and what its two kinds of calls bind -/
structure FunSt (K : PySem.W.Frag) (name : Str) (st : Stmt) (p1 pv : Str) (f : Addr) : Prop where
  ex : ∃ (oc : Value) (od : Option Addr) (dV kV doc pm : Value) (an : Option Addr) (cdv ct : Value) (osl : Array (Option Value)),
    K.lookup f = some ⟨oc, od, .func (PySem.W.fnOf name name (defArgs st) (defBody st) (defScope st) dV kV doc pm an cdv ct), osl⟩ ∧ PySem.W.codeIn K cdv name = true ∧
    (∀ us rest : List Value, us.length = [p1].length → bindArgs (PySem.W.fnOf name name (defArgs st) (defBody st) (defScope st) dV kV doc pm an cdv ct) ⟨us ++ rest, []⟩ = (newTuple rest >>= fun t => pure ([p1].zip us ++ [(pv, t)]))) ∧
    (∀ v : Value, bindArgs (PySem.W.fnOf name name (defArgs st) (defBody st) (defScope st) dV kV doc pm an cdv ct) ⟨[], [(p1, v)]⟩ = (newTuple [] >>= fun t => pure [(p1, v), (pv, t)]))
  kp : PySem.W.keepIn K (.ref f) = true
/-- called with its one name -/
def spOneK (sp : Sp) : Sp := fun vs H Q E => ∃ x, vs = [x] ∧ ∀ p, H p = none → sp [x, V.ref p] (upd H p (.tup [])) Q E
section
variable {P : Program} {w : World} {K : PySem.W.Frag} {mg : Str → Option Value} {base : Heap}
theorem FunSt.ok {name p1 pv : Str} {st : Stmt} {N : List Str} {f : Addr} {k : Nat} {sp : Sp} (F : FunSt K name st p1 pv f) (S : FnScope N [p1, pv] (defScope st))
    (hbody : ∀ (cdv : Value) (A : Around) (outer : List Env) (s : Shared) (H : Hp) (vs : List V) (Q : VK) (E : XK), Room k (A.deeper (envOfC name (defScope st) s.heap.objs.size f cdv)) → sp vs H Q E →
      ∃ t, PSs (cxOf CX0 P w K mg base N name (defScope st) f cdv A outer s H E).nox (defBody st) t ∧ t { nx := fun _ H' => Q .non H', rt := Q } (start N vs) H) :
    FnR P w K mg base CX0 (k + 1) f (spStar 1 sp) ∧ FnRK P w K mg base CX0 (k + 1) f p1 (spOneK sp) := by
  obtain ⟨oc, od, dV, kV, doc, pm, an, cdv, ct, osl, lk, hcd, hb, hw⟩ := F.ex
  refine ⟨FunS.ok (ps := [p1]) ⟨⟨oc, od, dV, kV, doc, pm, an, cdv, ct, osl, lk, hcd, hb⟩, F.kp⟩ S hbody, fun A outer s H us v vs x Q E hr e0 r rx hsp => ?_⟩
  obtain ⟨y, ev, hq⟩ := hsp
  obtain ⟨rfl, e2⟩ := List.append_inj' (s₂ := []) ev rfl
  obtain rfl : x = y := by simpa using e2
  obtain rfl : us = [] := by cases r; rfl
  have hn : H s.heap.objs.size = Option.none := e0.hok.fresh (Nat.le_refl _)
  refine StX.run_bnd (ps := [p1, pv]) lk hcd S hr e0 (G := fun xs H2 => ∃ p, H p = Option.none ∧ xs = [x, V.ref p] ∧ H2 = upd H p (.tup [])) (fun A' Ex Q' h => ?_) fun s2 H2 xs ⟨p, hp, ex, eH⟩ hr' => ?_
  · rw [hw v]
    refine wpAny_bind (wpAny_newTuple (wpAny_pure ?_) (Nat.zero_le _))
    have new : ObjOk P w (upd H s.heap.objs.size (.tup [])) (s.heap.push ({ cls := .type "tuple", data := .seq #[] } : Obj)) s.heap.objs.size (.tup []) := ⟨Nat.zero_le _, [], .nil, ⟨_, Heap.get?_push_size _ rfl, rfl, _, rfl⟩⟩
    have un := StX.un_laid (fs := frs outer) (s := s) (o := ({ cls := .type "tuple", data := .seq #[] } : Obj)) (u := .tup []) hn
    exact h _ _ [x, V.ref s.heap.objs.size] [v, Value.ref s.heap.objs.size] (StX.env0_laid e0 new) un rfl (fun e s' z => z) (.cons rx (.cons rfl .nil)) rfl ⟨_, hn, rfl, rfl⟩
  · subst ex eH
    obtain ⟨t, h, q⟩ := hbody cdv A outer s2 _ _ Q E hr' (hq p hp)
    exact ⟨t, h.nox, q⟩
end
section
variable {X : Cx} {CX : CXT} {k : Nat} {f : Addr} {sp : Sp} {E : XK} {x q : Str} {kws : List Keyword} {tk : TA} {p pos : Pos}
theorem run_fnRK {pins : List (Addr × Obj)} {σ : L2.St} {H : Hp} {s : Shared} {Q : VK} {z : V} {v : Value} (F : FnRK X.prog X.w X.K X.mg X.base CX k f q sp) (hr : Room k X.A) (hx : Passes CX X E) (I : Inv X pins σ H s) (rz : RelV z v)
    (h : sp [z] H Q E) : wpAny (model X.prog X.w) X.A (call (.ref f) [] [(q, v)]) (EP X pins σ Q) X.xe s := by
  refine wpAny_call (codeAny_mono (F X.A X.stack s H [] v [] z Q E hr I.env0 .nil rz h) fun r s' hq => ?_)
  cases r with
  | error e => exact hx pins σ H s e s' I hq
  | ok fl =>
    cases fl with
    | ret u => exact I.after hq
    | next => exact False.elim hq
    | brk => exact False.elim hq
    | cont => exact False.elim hq
/-- f(q = e) -/
def tCallOK (sp : Sp) (E : XK) (tk : TA) : TE := fun σ H Q => tk σ H fun vs H1 => ∃ z, vs = [z] ∧ sp [z] H1 Q E
theorem c_callOK {σ : L2.St} {H : Hp} {Q : VK} (h : tk σ H fun vs H1 => ∃ z, vs = [z] ∧ sp [z] H1 Q E) : tCallOK sp E tk σ H Q := h
theorem pe_callOK (F : FnRK X.prog X.w X.K X.mg X.base CX k f q sp) (hr : Room k X.A) (hg : Gl X x) (hm : X.mg x = some (.ref f)) (hk : PySem.W.keepIn X.K (.ref f) = true) (hx : Passes CX X E) (hkw : PK X kws tk)
    (hall : (backToKw pos (keywordEach kws X.env)).all (·.1.isSome) = true := by rfl) (hks : (backToKw pos (keywordEach kws X.env)).filterMap (·.1) = [q] := by rfl) (hdb : (x == ("__debug__" : Str)) = false := by decide)
    (hpl : ((backTo pos (starEach [] X.env)).any (·.1) || (backToKw pos (keywordEach kws X.env)).any (·.1.isNone)) = false := by rfl) :
    PE X (.Call (.Name x p) [] kws pos) (tCallOK sp E tk) := by
  refine ⟨fun pins s σ H Q I h => ?_⟩
  refine wpAny_Call_Name_kw (ld_glob I hg hm ?_ hdb)
  refine PySem.W.callWith_KW0 (h₀ := X.base) I.ok.mod.kin hk hall ?_ hpl
  refine thn (hkw.run pos pins s σ H _ I h) fun ws s2 ⟨zs, H2, I2, rz, z, ez, q2⟩ => ⟨I2.kIn, ?_⟩
  subst ez
  obtain ⟨v, rfl, rv⟩ := vals1 rz
  rw [hks]
  exact run_fnRK F hr hx I2 rv q2
variable {e : Expr} {es : List Expr} {t : TA}
/-- f(e, ..), by a positional promise -/
def tCallPR (sp : Sp) (E : XK) (t : TA) : TE := fun σ H Q => t σ H fun vs H1 => sp vs H1 Q E
theorem c_callPR {σ : L2.St} {H : Hp} {Q : VK} (h : t σ H fun vs H1 => sp vs H1 Q E) : tCallPR sp E t σ H Q := h
theorem pe_callPR (F : FnR X.prog X.w X.K X.mg X.base CX k f sp) (hr : Room k X.A) (hg : Gl X x) (hm : X.mg x = some (.ref f)) (hk : PySem.W.keepIn X.K (.ref f) = true) (hx : Passes CX X E)
    (ha : PA X (e :: es) t) (hdb : (x == ("__debug__" : Str)) = false := by decide) (he : starEach (e :: es) X.env = (false, eval e X.env) :: starEach es X.env := by rfl) (hpl : (backTo pos (starEach es X.env)).any (·.1) = false := by rfl) :
    PE X (.Call (.Name x p) (e :: es) [] pos) (tCallPR sp E t) := by
  refine ⟨fun pins s σ H Q I h => ?_⟩
  refine wpAny_Call_Name_kw (ld_glob I hg hm ?_ hdb)
  refine PySem.W.callWith_K (h₀ := X.base) I.ok.mod.kin hk (thn (ha.run pos pins s σ H _ I h) fun us s1 ⟨vs, H1, I1, r, q⟩ => ⟨I1.kIn, ?_⟩) he hpl
  exact wpAny_call (run_fnR F hr hx I1 r q)
end
end Und
/-! numbers that may be truth values; a static method off an object; tuple == (); list(..) that is printed -/
namespace Und
open PySem PySem.Spec PyProof.Rows L2
/-- an int, or a truth value as an int -/
def nbI : V → Option Int
  | .int i => some i
  | .bl b => some (if b = true then 1 else 0)
  | _ => none
section
variable {X : Cx}
def rAddNB : R2 := fun x y H Q => ∃ i j, nbI x = some i ∧ y = .int j ∧ Q (.int (i + j)) H
def rSubNB : R2 := fun x y H Q => ∃ i j, nbI x = some i ∧ y = .int j ∧ Q (.int (i - j)) H
def rSubBN : R2 := fun x y H Q => ∃ i j, x = .int i ∧ nbI y = some j ∧ Q (.int (i - j)) H
def rEqNB : R2 := fun x y H Q => ∃ i j, nbI x = some i ∧ y = .int j ∧ Q (.bl (decide (i = j))) H
theorem opAddNB : OpR X (binaryOp .Add) rAddNB := by
  intro pins s σ H x y v u Q I rx ry h
  obtain ⟨i, j, e, rfl, q⟩ := h
  obtain ⟨t, rfl⟩ := ry
  cases x with
  | int k =>
    obtain ⟨t', rfl⟩ := rx
    cases e
    exact add_int ⟨.int _, H, I.tok _, ⟨_, rfl⟩, q⟩
  | bl b =>
    obtain rfl : v = Value.bool b := rx
    cases e
    exact PySem.IntBool.add_bool_int ⟨.int _, H, I.tok _, ⟨_, rfl⟩, q⟩
  | _ => cases e
theorem opSubNB : OpR X (binaryOp .Sub) rSubNB := by
  intro pins s σ H x y v u Q I rx ry h
  obtain ⟨i, j, e, rfl, q⟩ := h
  obtain ⟨t, rfl⟩ := ry
  cases x with
  | int k =>
    obtain ⟨t', rfl⟩ := rx
    cases e
    exact sub_int ⟨.int _, H, I.tok _, ⟨_, rfl⟩, q⟩
  | bl b =>
    obtain rfl : v = Value.bool b := rx
    cases e
    exact PySem.IntBool.sub_bool_int ⟨.int _, H, I.tok _, ⟨_, rfl⟩, q⟩
  | _ => cases e
theorem opSubBN : OpR X (binaryOp .Sub) rSubBN := by
  intro pins s σ H x y v u Q I rx ry h
  obtain ⟨i, j, rfl, e, q⟩ := h
  obtain ⟨t, rfl⟩ := rx
  cases y with
  | int k =>
    obtain ⟨t', rfl⟩ := ry
    cases e
    exact sub_int ⟨.int _, H, I.tok _, ⟨_, rfl⟩, q⟩
  | bl b =>
    obtain rfl : u = Value.bool b := ry
    cases e
    exact PySem.IntBool.sub_int_bool ⟨.int _, H, I.tok _, ⟨_, rfl⟩, q⟩
  | _ => cases e
theorem opEqNB : OpR X (compareOp .Eq) rEqNB := by
  intro pins s σ H x y v u Q I rx ry h
  obtain ⟨i, j, e, rfl, q⟩ := h
  obtain ⟨t, rfl⟩ := ry
  cases x with
  | int k =>
    obtain ⟨t', rfl⟩ := rx
    cases e
    refine eq_int ⟨.bl _, H, I, ?_, q⟩
    show Value.bool (i == j) = Value.bool (decide (i = j))
    congr 1
  | bl b =>
    obtain rfl : v = Value.bool b := rx
    cases e
    refine PySem.EqBoolInt.eq_bool_int ⟨.bl _, H, I, ?_, q⟩
    show Value.bool _ = Value.bool (decide _)
    cases b <;> congr 1
  | _ => cases e
/-- str of an int or a truth value -/
def rStrNB : List V → Hp → VK → Prop := fun xs H Q => (∃ i, xs = [.int i] ∧ i.natAbs.log2 < 1920 ∧ Q (.str (toString i)) H) ∨ ∃ b, xs = [.bl b] ∧ Q (.str (if b then "True" else "False")) H
theorem callStrNB : CallR X (.type "str") rStrNB := by
  intro pins s σ H xs us Q I r h
  rcases h with h | ⟨b, rfl, q⟩
  · exact call_str_int pins s σ H xs us Q I r h
  · obtain ⟨u, rfl, r1⟩ := vals1 r
    cases r1
    exact PySem.P.str_of_bool ⟨.str _, H, I.tok _, ⟨_, rfl⟩, q⟩
/-- tuple == () -/
def rEqE (K : PySem.W.Frag) : R2 := fun x y H Q => ∃ a b xs, x = .ref a ∧ y = .ref b ∧ SqT K H a xs ∧ SqT K H b [] ∧ Q (.bl (decide (xs.length = 0))) H
theorem opEqE {K : PySem.W.Frag} (hu : X.A.units + 64 < cLine) (hK : X.K = K := by rfl) : OpR X (compareOp .Eq) (rEqE K) := by
  subst hK
  intro pins s σ H x y v u Q I rx ry h
  obtain ⟨a, b, xs, rfl, rfl, ha, hb, q⟩ := h
  cases rx
  cases ry
  obtain ⟨its, r1, p1, _⟩ := I.tuple ha
  obtain ⟨its2, r2, p2, _⟩ := I.tuple hb
  cases r2
  refine PySem.SeqAt.eq_tupleAt p1 p2 (by omega) (e := fun _ => true) (fun j h1 h2 => by simp at h2) ?_
  refine ⟨.bl _, H, I, ?_, q⟩
  have l := r1.length
  show Value.bool _ = Value.bool _
  congr 1
  rw [l]
  cases its with
  | nil => rfl
  | cons z r => simp
/-- list(x), which is not the table of modules -/
def rLstOfB (K : PySem.W.Frag) : List V → Hp → VK → Prop := fun xs H Q => ∃ p ys, xs = [.ref p] ∧ SqT K H p ys ∧ ∀ l, H l = none → l ≠ sysModules → Q (.ref l) (upd H l (.lst ys))
theorem callLstOfB {K : PySem.W.Frag} (hK : X.K = K := by rfl) : CallR X (.type "list") (rLstOfB K) := by
  subst hK
  intro pins s σ H xs us Q I r h
  obtain ⟨p, ys, rfl, hq, q⟩ := h
  obtain ⟨u, rfl, rx⟩ := vals1 r
  cases rx
  have fin : ∀ (its : List Value), Vals ys its → ys.length ≤ sizeLine → ∀ (h' : Heap) (c' : Nat), (∀ b o', s.heap.get? b = some o' → h'.get? b = some o') →
      h'.get? s.heap.objs.size = some { cls := .type "list", dict := none, data := .seq its.toArray c', slots := #[] } → EP X pins σ Q (.ref s.heap.objs.size) { s with heap := h' } := fun its r' hz h' c' kp e =>
    ⟨.ref s.heap.objs.size, _, I.laid (t' := s.toks) kp (Nat.le_refl _) (show ObjOk X.prog X.w _ h' _ (.lst ys) from ⟨hz, its, c', r', e⟩), rfl, q _ (I.hok.fresh (Nat.le_refl _)) (Nat.ne_of_gt I.big)⟩
  obtain ⟨its, r', pl, hz⟩ := I.tuple hq
  have hlen := r'.length
  obtain ⟨o, ho, hc, n, hd⟩ := pl
  exact call_list_seq p (.inr rfl) ho hc hd (fun h' c' kp e => fin its r' hz h' c' kp e) (by simp only [List.size_toArray] <;> omega)
theorem c_lstOfB {K : PySem.W.Frag} {p : Addr} {ys : List V} {H : Hp} {Q : VK} (e : SqT K H p ys) (h : ∀ l H2, H l = none → l ≠ sysModules → Same H H2 → H2 l = some (.lst ys) → Q (.ref l) H2) : rLstOfB K [.ref p] H Q := ⟨p, ys, rfl, e, fun l nl b => h l _ nl b (same_new nl) upd_same⟩
end
/-! ### a static method, off an object -/
structure SInst (K : PySem.W.Frag) (C : Addr) (m : Str) (p g : Addr) : Prop where
  pg : PySem.W.plainGet K C Str.empty = true
  ic : PySem.W.isClsIn K C = true
  at_ : PySem.W.findIn K (.ref C) m = some (some (.ref p))
  ty : PySem.W.typeIn K (.ref p) = some (.type "staticmethod")
  get : PySem.W.specialIn K (.ref p) "__get__" = some (some (.builtin "staticmethod.__get__"))
  tk : PySem.W.takesIn K (.ref p) = some false
  cp : PySem.W.copiedNames.contains m = false
  rc : ∃ rest, PySem.W.recIn K p "staticmethod" = some (.ref g :: rest)
  kp : PySem.W.keepIn K (.ref g) = true
section
variable {X : Cx} {CX : CXT} {k : Nat} {C p g a : Addr} {m : Str} {sp : Sp} {E : XK} {e o : Expr} {es : List Expr} {ta : TE} {t : TA} {apos pos : Pos} {pins : List (Addr × Obj)} {σ : L2.St} {H : Hp} {s : Shared} {A : Around}
theorem getmethsm_ok {pl : Sem Bool} {ox od : Obj} {Q : Value × List Value → Shared → Prop} {E' : Value → Shared → Prop} (I : Inv X pins σ H s) (J : PySem.W.InstAt s.heap a ox C (some od)) (hl : PySem.W.lookIn m od = some none) (c : SInst X.K C m p g)
    (h : Q (.ref g, []) { s with toks := s.toks + 1 }) : wpAny (model X.prog X.w) A (getMethod (.ref a) m pl) Q E' s := by
  obtain ⟨rest, hp⟩ := c.rc
  have pg' : PySem.W.plainGet X.K C m = true := c.pg
  refine PySem.W.method_usual (r := some (.ref p)) I.kIn J (PySem.W.plainGet_of pg').1 (PySem.W.plainGet_of pg').2 c.at_ ?_ ?_
  · show ((PySem.W.typeIn X.K (.ref p)).any fun t => t != .type "function" && t != .type "method_descriptor" && t != .type "wrapper_descriptor") = true
    rw [c.ty]
    first
    | rfl
    | decide +kernel
  · refine PySem.W.get_bind I.kIn J (PySem.W.plainGet_of pg').1 (ClX.find_cm c.ic c.at_ c.get c.tk c.cp hl) (PySem.W.plainGet_of pg').2 ?_
    exact wpAny_call (PySem.W.sm_get (s := { s with toks := s.toks + 1 }) I.kIn hp (PySem.W.handed_on rfl h))
def tSInst (C : Addr) (m : Str) (sp : Sp) (E : XK) (ta : TE) (t : TA) : TE := fun σ H Q => ta σ H fun x H1 => ∃ a dx fs, x = .ref a ∧ H1 a = some (.ins C dx fs) ∧ fs.lookup m = none ∧ t σ H1 fun vs H2 => sp vs H2 Q E
theorem c_sinst {σ : L2.St} {H : Hp} {Q : VK} (h : ta σ H fun x H1 => ∃ a dx fs, x = .ref a ∧ H1 a = some (.ins C dx fs) ∧ fs.lookup m = none ∧ t σ H1 fun vs H2 => sp vs H2 Q E) : tSInst C m sp E ta t σ H Q := h
theorem pe_sinst {pl : Sem Bool} (he : PE X o ta) (c : SInst X.K C m p g) (F : FnR X.prog X.w X.K X.mg X.base CX k g sp) (hr : Room k X.A) (hx : Passes CX X E) (ha : PA X (e :: es) t)
    (hst : starEach (e :: es) X.env = (false, eval e X.env) :: starEach es X.env := by rfl) (hpl : (backTo pos (starEach es X.env)).any (·.1) = false := by rfl)
    (ht : eval (.Call (.Attribute o m apos) (e :: es) [] pos) X.env = (do
      let ov ← eval o X.env
      standAt apos.atName
      let (f, first) ← holding [ov] (getMethod ov m pl)
      callWith pos f first (backTo pos (starEach (e :: es) X.env)) (backToKw pos (keywordEach [] X.env))) := by rfl) :
    PE X (.Call (.Attribute o m apos) (e :: es) [] pos) (tSInst C m sp E ta t) := by
  refine ⟨fun pins s σ H Q I h => ?_⟩
  refine PySem.W.methodCall_KW (pl := pl) (thn (he.run pins s σ H _ I h) fun u s1 ⟨x, H1, I1, rx, a, dx, fs, ex, ea, l, q⟩ => ?_) ht
  subst ex
  obtain rfl : u = Value.ref a := rx
  obtain ⟨mA, O, rr, _, _, _⟩ := ins_get I1.hok ea
  have hn : mA m = none := RelO.none_of (by rw [← l]; exact rr m)
  obtain ⟨od, J, hl⟩ := O.look
  have I2 := I1.tok (s1.toks + 1)
  refine getmethsm_ok I1 J (by rw [hl m, hn]) c ?_
  exact PySem.W.callWith_K (h₀ := X.base) I2.ok.mod.kin c.kp (thn (ha.run pos pins _ σ H1 _ I2 q) fun us s3 ⟨vs, H2, I3, rv, q2⟩ => ⟨I3.kIn, wpAny_call (run_fnR F hr hx I3 rv q2)⟩) hst hpl
end
end Und
namespace Und
open PySem PySem.Spec PyProof.Rows L2
def rUpS (x : V) (xs : List V) (H : Hp) (Q : VK) : Prop := ∃ a, x = .str a ∧ xs = [] ∧ a.length ≤ 5592405 ∧ Q (.str (Txt.upper a)) H
theorem peUpper {X : Cx} {o : Expr} {to : TE} {apos pos : Pos} (ho : PE X o to) (hbase : attributeBase o "upper" X.env (eval o X.env) = eval o X.env := by rfl) (hline : (apos.endLine == pos.line) = true := by rfl) :
    PE X (.Call (.Attribute o "upper" apos) [] [] pos) (tM0 rUpS to) := pe_upper ho hbase hline
theorem c_upper {te : TE} {σ : L2.St} {H : Hp} {Q : VK} (h : te σ H fun x H1 => (∃ a, x = .str a) ∧ rUpS x [] H1 Q) : tM0 rUpS te σ H Q := h
/-- x is not b, of a truth value -/
def rNotBV : R2 := fun x y H Q => ∃ a b : Bool, x = .bl a ∧ y = .bl b ∧ Q (.bl (decide (a ≠ b))) H
theorem opNotBV {X : Cx} : OpR X (compareOp .IsNot) rNotBV := by
  intro pins s σ H x y v u Q I rx ry h
  obtain ⟨a, b, rfl, rfl, q⟩ := h
  cases (show v = Value.bool a from rx)
  cases (show u = Value.bool b from ry)
  by_cases e : a = b
  · subst e
    exact wpAny_isNot_self rfl ⟨.bl false, H, I, rfl, by simpa using q⟩
  · exact wpAny_isNot_other rfl (fun z => e (Value.bool.inj z)) ⟨.bl true, H, I, rfl, by simpa [e] using q⟩
theorem c_notBV {a b : Bool} {H : Hp} {Q : VK} (q : Q (.bl (decide (a ≠ b))) H) : rNotBV (.bl a) (.bl b) H Q := ⟨a, b, rfl, rfl, q⟩
end Und
/-! walks over what is a list or a tuple; how often an int stands in a list; a list repeated -/
namespace Und
open PySem PySem.Spec PyProof.Rows L2
section
variable {X : Cx} {tg : Expr}
def rItS (K : PySem.W.Frag) (x : V) (G : Hp) (R : It → Hp → Prop) : Prop := ∃ a, x = .ref a ∧ (((∃ ys, SqL K G a ys) ∧ R (Itl K a) G) ∨ ((∃ ys, SqT K G a ys) ∧ R (Itt K a) G))
def iSeq (K : PySem.W.Frag) (tl : TE) : TI := fun σ H R => tl σ H fun x G => rItS K x G R
theorem new_ok {pins : List (Addr × Obj)} {σ : L2.St} {G : Hp} {s : Shared} (I : Inv X pins σ G s) : ∀ b ∈ [s.heap.objs.size], FpOk X pins G b := fun b m => by
  cases List.mem_singleton.mp m
  exact I.fpOk (Nat.le_refl _) (I.hok.fresh (Nat.le_refl _))
theorem pi_seq {l : Expr} {tl : TE} (hl : PE X l tl) : PI X tg l (iSeq X.K tl) := by
  constructor
  intro pins s σ H R I h
  apply thn (hl.run pins s σ H _ I h)
  rintro v s1 ⟨x, G, J, rx, a, rfl, hx⟩
  cases rx
  rcases hx with ⟨⟨ys, hy⟩, q⟩ | ⟨⟨ys, hy⟩, q⟩
  · obtain ⟨its, _, p, _⟩ := J.list hy
    exact wpAny_pyIter_list p.isList ⟨_, [s1.heap.objs.size], _, _, G, rfl, J.kept (t' := s1.toks) fun _ _ e => Heap.get?_push_of_some _ e, turn_list a _, ⟨_, Heap.get?_push_size _ rfl, rfl, rfl⟩, new_ok J, q⟩
  · obtain ⟨its, _, p, _⟩ := J.tuple hy
    exact wpAny_pyIter_tuple (items := its.toArray) p ⟨_, [s1.heap.objs.size], _, _, G, rfl, J.kept (t' := s1.toks) fun _ _ e => Heap.get?_push_of_some _ e, turn_tuple a _, ⟨_, Heap.get?_push_size _ rfl, rfl, rfl⟩, new_ok J, q⟩
theorem piSeq {K : PySem.W.Frag} {l : Expr} {tl : TE} (hl : PE X l tl) (h : X.K = K := by rfl) : PI X tg l (iSeq K tl) := h ▸ pi_seq hl
end
section
variable {K : PySem.W.Frag} {a : Addr} {xs : List V} {g : TG} {tb : TS} {D : Ends} {σ : L2.St} {H : Hp} {Q : VK}
theorem c_iseq {tl : TE} {R : It → Hp → Prop} (h : tl σ H fun x G => rItS K x G R) : iSeq K tl σ H R := h
/-- a list or a tuple -/
def SqA (K : PySem.W.Frag) (H : Hp) (a : Addr) (xs : List V) : Prop := SqL K H a xs ∨ SqT K H a xs
theorem SqA.same {H' : Hp} (s : Same H H') (h : SqA K H a xs) : SqA K H' a xs := h.elim (fun h => .inl (s.seq h)) fun h => .inr (same_seqT s h)
abbrev ForW (J : It) (g : TG) (tb : TS) (D : Ends) (σ : L2.St) (H : Hp) : Prop := ∃ W : Nat → Nat → L2.St → Hp → Prop, (∃ m, W 0 m σ H) ∧ ∀ i m σ H, W i m σ H →
  (J.stop i H ∧ D.nx σ H) ∨ (J.go i H ∧ ∃ N : L2.St → Hp → Prop, (∀ σ' H', N σ' H' → ∃ m', m' < m ∧ W (i + 1) m' σ' H') ∧ ∀ x H', J.yld i H x H' → g x σ H' fun σ2 H2 => tb { D with nx := N, ct := N, bk := D.nx } σ2 H2)
/-- over a list or a tuple that stays as it is -/
theorem for_any {H0 : Hp} (hS : SqA K H0 a xs) (Pv : Nat → L2.St → Hp → Prop) (h0 : Pv 0 σ H) (hl : ∀ i σ' H', Pv i σ' H' → Same H0 H')
    (hs : ∀ i x σ' H', xs[i]? = some x → Pv i σ' H' → g x σ' H' fun σ2 H2 => tb { D with nx := Pv (i + 1), ct := Pv (i + 1), bk := D.nx } σ2 H2) (hd : ∀ σ' H', Pv xs.length σ' H' → D.nx σ' H') :
    rItS K (.ref a) H fun J H1 => ForW J g tb D σ H1 := by
  rcases hS with hS | hS
  · exact ⟨a, rfl, .inl ⟨⟨xs, (hl _ _ _ h0).seq hS⟩, for_list (xs := xs) Pv h0 (fun i σ' H' _ p => (hl i σ' H' p).seq hS) hs hd⟩⟩
  · exact ⟨a, rfl, .inr ⟨⟨xs, same_seqT (hl _ _ _ h0) hS⟩, for_tup (xs := xs) Pv h0 (fun i σ' H' _ p => same_seqT (hl i σ' H' p) hS) hs hd⟩⟩
end
/-! ### count, and a list repeated -/
section
variable {X : Cx} {K : PySem.W.Frag} {a : Addr} {H : Hp} {Q : VK}
def rCnt (K : PySem.W.Frag) (x : V) (xs : List V) (H : Hp) (Q : VK) : Prop := rCntI K x xs H Q
theorem mtCnt (h : X.K = K := by rfl) : MtR X "list.count" (rCnt K) := h ▸ mt_lcount
theorem c_cnt {ns : List Int} {k : Int} (e : SqL K H a (ns.map V.int)) (h : Q (.int (ns.count k : Nat)) H) : rCnt K (.ref a) [.int k] H Q := ⟨a, ns, k, rfl, rfl, e, h⟩
theorem c_rep1 {x : V} {k : Nat} (e : H a = some (.lst [x])) (hk : k ≤ 100000) (h : ∀ p H2, H p = none → Same H H2 → H2 p = some (.lst (List.replicate k x)) → Q (.ref p) H2) : rRep (.ref a) (.int (k : Int)) H Q := by
  refine ⟨a, k, [x], rfl, rfl, e, by omega, by omega, ?_, fun p np => ?_⟩
  · rw [Int.toNat_natCast, List.length_singleton, Nat.one_mul]
    exact sz hk
  · have e2 : (List.replicate (k : Int).toNat [x]).flatten = List.replicate k x := by
      rw [Int.toNat_natCast]
      clear e h hk
      induction k with
      | zero => rfl
      | succ k ih => rw [List.replicate_succ, List.flatten_cons, ih, List.replicate_succ]; rfl
    rw [e2]
    exact h p _ np (same_new np) upd_same
theorem cut_past (xs : List V) (k : Nat) : cutV xs none (some (k : Int)) = xs.take k ∧ cutV xs (some (k : Int)) none = xs.drop k := by
  unfold cutV
  rw [HT.sIx_none, HT.sIx_none, HT.sIx_nat, HT.sIx_nat, List.drop_zero, Nat.sub_zero]
  by_cases h : k ≤ xs.length
  · rw [Nat.min_eq_left h]
    exact ⟨rfl, List.take_of_length_le (by rw [List.length_drop]; omega)⟩
  · rw [Nat.min_eq_right (by omega), List.take_of_length_le (Nat.le_refl _), List.take_of_length_le (by omega : xs.length ≤ k), List.drop_eq_nil_of_le (by omega : xs.length ≤ k), List.drop_length, List.take_nil]
    exact ⟨rfl, rfl⟩
end
/-! ### zip -/
section
variable {X : Cx} {K : PySem.W.Frag}
def rItZ (K : PySem.W.Frag) (vs : List V) (G : Hp) (R : It → Hp → Prop) : Prop := ∃ (a b : Addr) (xs ys : List V), vs = [.ref a, .ref b] ∧ SqL K G a xs ∧ SqL K G b ys ∧ R (Itz K a b) G
def iZp (K : PySem.W.Frag) (ta : TA) : TI := fun σ H R => ta σ H fun vs G => rItZ K vs G R
theorem piZip {e e2 : Expr} {ta : TA} {p pos tpos : Pos} {elts : List Expr} {kk : Nat} (hg : Gl X "zip") (hm : X.mg "zip" = none) (ha : PA X [e, e2] ta) (h : X.K = K := by rfl)
    (hs : starEach [e, e2] X.env = (false, eval e X.env) :: starEach [e2] X.env := by rfl) (hpl : (backTo pos (starEach [e2] X.env)).any (·.1) = false := by rfl) : PI X (.Tuple elts kk tpos) (.Call (.Name "zip" p) [e, e2] [] pos) (iZp K ta) := h ▸ pi_zip hg hm ha hs hpl
theorem c_izp {ta : TA} {σ : L2.St} {H : Hp} {R : It → Hp → Prop} (h : ta σ H fun vs G => rItZ K vs G R) : iZp K ta σ H R := h
theorem c_ritz {a b : Addr} {xs ys : List V} {H : Hp} {R : It → Hp → Prop} (h1 : SqL K H a xs) (h2 : SqL K H b ys) (h : R (Itz K a b) H) : rItZ K [.ref a, .ref b] H R := ⟨a, b, xs, ys, rfl, h1, h2, h⟩
end
section
variable {K : PySem.W.Frag} {te : TE} {g : TG} {vs : List Nat} {σ : L2.St} {H1 : Hp} {D a b : Addr} {Qd : Hp → Prop} {xs ys : List V}
theorem lc_zp (R : Nat → V → Prop) (hl : xs.length = ys.length) (nD : H1 D = none) (hn : xs.length ≤ 100000) (hA : SqL K H1 a xs) (hB : SqL K H1 b ys)
    (hs : ∀ i x y T H (Q' : VK), xs[i]? = some x → ys[i]? = some y → Same H1 H → H T = some (.tup [x, y]) → (∀ v H4, Same H H4 → R i v → Q' v H4) → g (.ref T) (wipe σ vs) H fun σ2 H2 => wipe σ2 vs = wipe σ vs ∧ te σ2 H2 Q')
    (hd : ∀ H zs, Same H1 H → H D = some (.lst zs) → zs.length = xs.length → (∀ i y, zs[i]? = some y → R i y) → Qd H) : LcW (Itz K a b) te g tYes vs σ H1 D Qd := by
  refine ⟨fun i m H => m = xs.length - i ∧ i ≤ xs.length ∧ Same H1 H ∧ Acc R D i H, ⟨xs.length, by simp, Nat.zero_le _, same_new nD, [], upd_same, rfl, fun j y e => by simp at e⟩, ?_⟩
  rintro i m H ⟨rfl, hi, s, zs, e, l, r⟩
  by_cases hlt : i < xs.length
  · have hlt2 : i < ys.length := by omega
    refine .inr ⟨⟨xs, ys, xs[i], ys[i], s.seq hA, s.seq hB, by simp [hlt], by simp [hlt2]⟩, fun H' => Same H1 H' ∧ Acc R D (i + 1) H', fun H' p' => ⟨xs.length - (i + 1), by omega, rfl, hlt, p'⟩, fun x H' y => ?_⟩
    obtain ⟨T, x0, y0, rfl, nT, rfl, hx, hy⟩ := y
    have hx := hx xs (s.seq hA)
    have hy := hy ys (s.seq hB)
    have sT : Same H (upd H T (.tup [x0, y0])) := same_new nT
    exact hs i x0 y0 T _ (fun y H4 => ∃ acc, H4 D = some (.lst acc) ∧ acc.length < sizeLine ∧ (Same H1 (upd H4 D (.lst (acc ++ [y]))) ∧ Acc R D (i + 1) (upd H4 D (.lst (acc ++ [y]))))) hx hy (s.trans sT) upd_same fun y H4 s4 ry =>
      ⟨zs, s4 _ _ (sT _ _ e), szl (by omega), Same.mut ((s.trans sT).trans s4) nD, Acc.put l r ry⟩
  · have e' : i = xs.length := by omega
    subst e'
    exact .inl ⟨⟨xs, ys, s.seq hA, s.seq hB, .inl (Nat.le_refl _)⟩, hd H zs s e l r⟩
end
theorem dpAll_bls {K : PySem.W.Frag} {H : Hp} : ∀ bs : List Bool, DpAll K H (bs.map V.bl) (bs.map PyData.bool)
  | [] => .nil
  | b :: bs => .cons (.bl b) (dpAll_bls bs)
end Und
namespace Und
open PySem PySem.Spec PyProof.Rows L2
local macro_rules | `(tactic| walk_at "side") => `(tactic| first | decide | omega | exact ⟨by omega, by omega⟩ | (show (0 : Int) < _; omega) | (exact Or.inl ⟨by omega, by omega⟩) | (exact Or.inr ⟨by omega, by omega⟩) | (exact sz (by simp)) | (exact szl (by simp)))
local macro_rules | `(tactic| walk_at "u") => `(tactic| first
  | with_reducible refine c_seq ?_ | with_reducible refine c_next ?_ | with_reducible refine c_yes ?_ | with_reducible refine c_asg ?_ | with_reducible refine c_asg2 ?_ | with_reducible refine c_par ?_ | with_reducible refine c_two ?_ | with_reducible refine c_g ?_ | with_reducible refine c_gsub ?_ | with_reducible refine c_gcons ?_ | with_reducible refine c_gnil ?_ | with_reducible refine c_ret ?_ | with_reducible refine c_drop ?_
  | ((with_reducible refine c_var (v := ?v) ?h ?_); (case h => rfl)) | with_reducible refine c_c ?_ | with_reducible refine c_op ?_ | with_reducible refine c_un ?_ | with_reducible refine c_I0 ?_
  | ((with_reducible refine c_I ?h ?_); (case h => walk_at "side"))
  | ((with_reducible refine c_eq ?h ?_); (case h => rfl)) | ((with_reducible refine c_neq ?h ?_); (case h => rfl)) | with_reducible refine c_test ?_ | with_reducible refine c_B ?_ | with_reducible refine c_bl ?_ | with_reducible refine c_int ?_ | with_reducible refine c_ifs ?_ | with_reducible refine c_ife ?_
  | with_reducible refine c_andV ?_ | with_reducible refine c_orV ?_ | with_reducible refine c_notV ?_ | with_reducible refine c_and ?_ | with_reducible refine c_or ?_ | with_reducible refine c_not ?_
  | with_reducible refine c_call ?_ | with_reducible refine c_cb ?_ | with_reducible refine c_nil ?_ | with_reducible refine c_cons ?_
  | with_reducible refine c_tup ?_ | with_reducible refine c_lst ?_ | with_reducible refine c_sl ?_ | with_reducible refine c_nop ?_ | with_reducible refine c_part ?_ | with_reducible refine c_fld ?_
  | with_reducible refine c_for ?_ | with_reducible refine c_ilist ?_ | with_reducible refine c_itup ?_ | with_reducible refine c_irng1 ?_ | with_reducible refine c_lc ?_
  | with_reducible refine c_m1 ?_ | with_reducible refine c_isS ?_ | with_reducible refine c_chain ?_ | with_reducible refine c_str ?_ | with_reducible refine c_make ?_ | with_reducible refine c_meth ?_ | with_reducible refine c_prop ?_ | with_reducible refine c_sfld ?_ | with_reducible refine c_ienumT ?_ | with_reducible refine iteT ?_ | with_reducible refine iteF ?_ | with_reducible refine iteNT ?_ | with_reducible refine iteNF ?_
  | ((with_reducible refine iteDT ?h ?_); (case h => first | rfl | omega)) | ((with_reducible refine iteDF ?h ?_); (case h => first | omega | (intro z; cases z; done))) | ((with_reducible refine iteNDT ?h ?_); (case h => first | rfl | omega)) | ((with_reducible refine iteNDF ?h ?_); (case h => first | omega | (intro z; cases z; done))))
local macro_rules | `(tactic| walk_at "go") => `(tactic| repeat (walk_at "u"))
def topS (i : Nat) : Stmt := PySem.Challenge.pw_undotables_k07_commands_of_any_value.main.body.getD i (.Pass ⟨0, 0, 0, 0⟩)
abbrev sIsInt : Stmt := topS 12
abbrev nIsInt : List Str := ["value", "least"]
abbrev pIsInt : List Str := ["value", "least"]
theorem scIsInt : FnScope nIsInt pIsInt (defScope sIsInt) := ⟨rfl, rfl, rfl, by decide +kernel, rfl, by decide +kernel, by decide +kernel⟩
abbrev sIsName : Stmt := topS 13
abbrev nIsName : List Str := ["value"]
abbrev pIsName : List Str := ["value"]
theorem scIsName : FnScope nIsName pIsName (defScope sIsName) := ⟨rfl, rfl, rfl, by decide +kernel, rfl, by decide +kernel, by decide +kernel⟩
abbrev sIsAm : Stmt := topS 14
abbrev nIsAm : List Str := ["value"]
abbrev pIsAm : List Str := ["value"]
theorem scIsAm : FnScope nIsAm pIsAm (defScope sIsAm) := ⟨rfl, rfl, rfl, by decide +kernel, rfl, by decide +kernel, by decide +kernel⟩
abbrev sChName : Stmt := topS 15
abbrev nChName : List Str := ["name"]
abbrev pChName : List Str := ["name"]
theorem scChName : FnScope nChName pChName (defScope sChName) := ⟨rfl, rfl, rfl, by decide +kernel, rfl, by decide +kernel, by decide +kernel⟩
abbrev sChNames : Stmt := topS 16
abbrev nChNames : List Str := ["names", "at", "value"]
abbrev pChNames : List Str := ["names"]
theorem scChNames : FnScope nChNames pChNames (defScope sChNames) := ⟨rfl, rfl, rfl, by decide +kernel, rfl, by decide +kernel, by decide +kernel⟩
abbrev sChAm : Stmt := topS 17
abbrev nChAm : List Str := ["amount"]
abbrev pChAm : List Str := ["amount"]
theorem scChAm : FnScope nChAm pChAm (defScope sChAm) := ⟨rfl, rfl, rfl, by decide +kernel, rfl, by decide +kernel, by decide +kernel⟩
abbrev sMoved : Stmt := topS 18
abbrev nMoved : List Str := ["wanted", "available"]
abbrev pMoved : List Str := ["wanted", "available"]
theorem scMoved : FnScope nMoved pMoved (defScope sMoved) := ⟨rfl, rfl, rfl, by decide +kernel, rfl, by decide +kernel, by decide +kernel⟩
abbrev sHWith : Stmt := topS 19
abbrev nHWith : List Str := ["past", "future", "made"]
abbrev pHWith : List Str := ["past", "future"]
theorem scHWith : FnScope nHWith pHWith (defScope sHWith) := ⟨rfl, rfl, rfl, by decide +kernel, rfl, by decide +kernel, by decide +kernel⟩
abbrev sChHist : Stmt := topS 21
abbrev nChHist : List Str := ["history"]
abbrev pChHist : List Str := ["history"]
theorem scChHist : FnScope nChHist pChHist (defScope sChHist) := ⟨rfl, rfl, rfl, by decide +kernel, rfl, by decide +kernel, by decide +kernel⟩
abbrev sIsStep : Stmt := topS 25
abbrev nIsStep : List Str := ["value"]
abbrev pIsStep : List Str := ["value"]
theorem scIsStep : FnScope nIsStep pIsStep (defScope sIsStep) := ⟨rfl, rfl, rfl, by decide +kernel, rfl, by decide +kernel, by decide +kernel⟩
abbrev sIsRep : Stmt := topS 26
abbrev nIsRep : List Str := ["value", "word", "times", "steps", "step"]
abbrev pIsRep : List Str := ["value"]
theorem scIsRep : FnScope nIsRep pIsRep (defScope sIsRep) := ⟨rfl, rfl, rfl, by decide +kernel, rfl, by decide +kernel, by decide +kernel⟩
abbrev sCmdTx : Stmt := topS 27
abbrev nCmdTx : List Str := ["command", "steps", "word", "what", "step"]
abbrev pCmdTx : List Str := ["command"]
theorem scCmdTx : FnScope nCmdTx pCmdTx (defScope sCmdTx) := ⟨rfl, rfl, rfl, by decide +kernel, rfl, by decide +kernel, by decide +kernel⟩
abbrev sPSteps : Stmt := topS 32
abbrev nPSteps : List Str := ["steps", "place", "size", "word", "amount"]
abbrev pPSteps : List Str := ["steps", "place", "size"]
theorem scPSteps : FnScope nPSteps pPSteps (defScope sPSteps) := ⟨rfl, rfl, rfl, by decide +kernel, rfl, by decide +kernel, by decide +kernel⟩
abbrev sShift : Stmt := topS 33
abbrev nShift : List Str := ["steps", "size", "back", "ahead", "word", "amount"]
abbrev pShift : List Str := ["steps", "size"]
theorem scShift : FnScope nShift pShift (defScope sShift) := ⟨rfl, rfl, rfl, by decide +kernel, rfl, by decide +kernel, by decide +kernel⟩
abbrev sPRep : Stmt := topS 34
abbrev nPRep : List Str := ["times", "steps", "place", "size", "first", "lowest", "highest"]
abbrev pPRep : List Str := ["times", "steps", "place", "size"]
theorem scPRep : FnScope nPRep pPRep (defScope sPRep) := ⟨rfl, rfl, rfl, by decide +kernel, rfl, by decide +kernel, by decide +kernel⟩
abbrev sPAft : Stmt := topS 35
abbrev nPAft : List Str := ["command", "place", "size"]
abbrev pPAft : List Str := ["command", "place", "size"]
theorem scPAft : FnScope nPAft pPAft (defScope sPAft) := ⟨rfl, rfl, rfl, by decide +kernel, rfl, by decide +kernel, by decide +kernel⟩
abbrev sNumIn : Stmt := topS 28
abbrev nNumIn : List Str := ["text"]
abbrev pNumIn : List Str := ["text"]
theorem scNumIn : FnScope nNumIn pNumIn (defScope sNumIn) := ⟨rfl, rfl, rfl, by decide +kernel, rfl, by decide +kernel, by decide +kernel⟩
abbrev sStepIn : Stmt := topS 29
abbrev nStepIn : List Str := ["word", "amount", "number"]
abbrev pStepIn : List Str := ["word", "amount"]
theorem scStepIn : FnScope nStepIn pStepIn (defScope sStepIn) := ⟨rfl, rfl, rfl, by decide +kernel, rfl, by decide +kernel, by decide +kernel⟩
abbrev sRepIn : Stmt := topS 30
abbrev nRepIn : List Str := ["times", "rest", "number", "steps", "text", "word", "space", "amount", "step"]
abbrev pRepIn : List Str := ["times", "rest"]
theorem scRepIn : FnScope nRepIn pRepIn (defScope sRepIn) := ⟨rfl, rfl, rfl, by decide +kernel, rfl, by decide +kernel, by decide +kernel⟩
abbrev sCmdIn : Stmt := topS 31
abbrev nCmdIn : List Str := ["text", "word", "space", "rest"]
abbrev pCmdIn : List Str := ["text"]
theorem scCmdIn : FnScope nCmdIn pCmdIn (defScope sCmdIn) := ⟨rfl, rfl, rfl, by decide +kernel, rfl, by decide +kernel, by decide +kernel⟩
abbrev sPOf : Stmt := topS 37
abbrev nPOf : List Str := ["commands", "made"]
abbrev pPOf : List Str := ["commands"]
theorem scPOf : FnScope nPOf pPOf (defScope sPOf) := ⟨rfl, rfl, rfl, by decide +kernel, rfl, by decide +kernel, by decide +kernel⟩
abbrev sChProg : Stmt := topS 38
abbrev nChProg : List Str := ["program"]
abbrev pChProg : List Str := ["program"]
theorem scChProg : FnScope nChProg pChProg (defScope sChProg) := ⟨rfl, rfl, rfl, by decide +kernel, rfl, by decide +kernel, by decide +kernel⟩
abbrev sCell : Stmt := topS 40
abbrev nCell : List Str := ["_law_script", "_law_k", "_law_mixed", "_law_cell_here"]
abbrev pCell : List Str := ["_law_script", "_law_k"]
theorem scCell : FnScope nCell pCell (defScope sCell) := ⟨rfl, rfl, rfl, by decide +kernel, rfl, by decide +kernel, by decide +kernel⟩
abbrev sPool : Stmt := topS 41
abbrev nPool : List Str := ["_law_cell_here", "_law_digits"]
abbrev pPool : List Str := ["_law_cell_here"]
theorem scPool : FnScope nPool pPool (defScope sPool) := ⟨rfl, rfl, rfl, by decide +kernel, rfl, by decide +kernel, by decide +kernel⟩
abbrev sDraw : Stmt := topS 42
abbrev nDraw : List Str := ["_law_pool_here", "_law_many", "_law_mixed", "_law_digit"]
abbrev pDraw : List Str := ["_law_pool_here", "_law_many"]
theorem scDraw : FnScope nDraw pDraw (defScope sDraw) := ⟨rfl, rfl, rfl, by decide +kernel, rfl, by decide +kernel, by decide +kernel⟩
abbrev sCalls : Stmt := topS 43
abbrev nCalls : List Str := ["_law_pool_here", "_law_many", "_law_own", "_law_begin", "_law_mode", "_law_letters", "_law_stem", "_law_cut", "_law_k"]
abbrev pCalls : List Str := ["_law_pool_here", "_law_many"]
theorem scCalls : FnScope nCalls pCalls (defScope sCalls) := ⟨rfl, rfl, rfl, by decide +kernel, rfl, by decide +kernel, by decide +kernel⟩
abbrev sAmnt : Stmt := topS 44
abbrev nAmnt : List Str := ["_law_pool_here", "_law_most", "_law_way"]
abbrev pAmnt : List Str := ["_law_pool_here", "_law_most"]
theorem scAmnt : FnScope nAmnt pAmnt (defScope sAmnt) := ⟨rfl, rfl, rfl, by decide +kernel, rfl, by decide +kernel, by decide +kernel⟩
abbrev sMoves : Stmt := topS 45
abbrev nMoves : List Str := ["_law_pool_here", "_law_many", "_law_most", "_law_found", "_law_mode", "_law_far", "_law_turn", "_law_turn_word", "_law_amount_here"]
abbrev pMoves : List Str := ["_law_pool_here", "_law_many", "_law_most"]
theorem scMoves : FnScope nMoves pMoves (defScope sMoves) := ⟨rfl, rfl, rfl, by decide +kernel, rfl, by decide +kernel, by decide +kernel⟩
abbrev sSteps : Stmt := topS 46
abbrev nSteps : List Str := ["_law_pool_here", "_law_dos", "_law_most", "_law_calls_here", "_law_found", "_law_call", "_law_inner"]
abbrev pSteps : List Str := ["_law_pool_here", "_law_dos", "_law_most"]
theorem scSteps : FnScope nSteps pSteps (defScope sSteps) := ⟨rfl, rfl, rfl, by decide +kernel, rfl, by decide +kernel, by decide +kernel⟩
abbrev sLWhole : Stmt := topS 47
abbrev nLWhole : List Str := ["_law_thing"]
abbrev pLWhole : List Str := ["_law_thing"]
theorem scLWhole : FnScope nLWhole pLWhole (defScope sLWhole) := ⟨rfl, rfl, rfl, by decide +kernel, rfl, by decide +kernel, by decide +kernel⟩
abbrev sLCall : Stmt := topS 48
abbrev nLCall : List Str := ["_law_thing", "_law_sign"]
abbrev pLCall : List Str := ["_law_thing"]
theorem scLCall : FnScope nLCall pLCall (defScope sLCall) := ⟨rfl, rfl, rfl, by decide +kernel, rfl, by decide +kernel, by decide +kernel⟩
abbrev sLMove : Stmt := topS 49
abbrev nLMove : List Str := ["_law_thing"]
abbrev pLMove : List Str := ["_law_thing"]
theorem scLMove : FnScope nLMove pLMove (defScope sLMove) := ⟨rfl, rfl, rfl, by decide +kernel, rfl, by decide +kernel, by decide +kernel⟩
abbrev sLStep : Stmt := topS 50
abbrev nLStep : List Str := ["_law_thing", "_law_inner"]
abbrev pLStep : List Str := ["_law_thing"]
theorem scLStep : FnScope nLStep pLStep (defScope sLStep) := ⟨rfl, rfl, rfl, by decide +kernel, rfl, by decide +kernel, by decide +kernel⟩
abbrev sLOdd : Stmt := topS 51
abbrev nLOdd : List Str := ["_law_pool_here", "_law_some"]
abbrev pLOdd : List Str := ["_law_pool_here"]
theorem scLOdd : FnScope nLOdd pLOdd (defScope sLOdd) := ⟨rfl, rfl, rfl, by decide +kernel, rfl, by decide +kernel, by decide +kernel⟩
abbrev sLPart : Stmt := topS 52
abbrev nLPart : List Str := ["_law_pool_here", "_law_thing", "_law_some"]
abbrev pLPart : List Str := ["_law_pool_here", "_law_thing"]
theorem scLPart : FnScope nLPart pLPart (defScope sLPart) := ⟨rfl, rfl, rfl, by decide +kernel, rfl, by decide +kernel, by decide +kernel⟩
abbrev sBent : Stmt := topS 53
abbrev nBent : List Str := ["_law_pool_here", "_law_thing", "_law_at", "_law_way"]
abbrev pBent : List Str := ["_law_pool_here", "_law_thing"]
theorem scBent : FnScope nBent pBent (defScope sBent) := ⟨rfl, rfl, rfl, by decide +kernel, rfl, by decide +kernel, by decide +kernel⟩
abbrev sRight : Stmt := topS 54
abbrev nRight : List Str := ["_law_pool_here", "_law_box", "_law_steps_here", "_law_turn", "_law_thing", "_law_some", "_law_each", "_law_shown", "_law_due", "_law_told"]
abbrev pRight : List Str := ["_law_pool_here"]
theorem scRight : FnScope nRight pRight (defScope sRight) := ⟨rfl, rfl, rfl, by decide +kernel, rfl, by decide +kernel, by decide +kernel⟩
abbrev sLaw : Stmt := topS 55
abbrev nLaw : List Str := ["_law_script", "_law_one", "_law_told", "_law_k"]
abbrev pLaw : List Str := ["_law_script"]
theorem scLaw : FnScope nLaw pLaw (defScope sLaw) := ⟨rfl, rfl, rfl, by decide +kernel, rfl, by decide +kernel, by decide +kernel⟩
abbrev sHInit : Stmt := inClass (topS 20) 0
abbrev nHInit : List Str := ["self", "past", "future"]
abbrev pHInit : List Str := ["self", "past", "future"]
theorem scHInit : FnScope nHInit pHInit (defScope sHInit) := ⟨rfl, rfl, rfl, by decide +kernel, rfl, by decide +kernel, by decide +kernel⟩
abbrev sHLine : Stmt := inClass (topS 20) 2
abbrev nHLine : List Str := ["self"]
abbrev pHLine : List Str := ["self"]
theorem scHLine : FnScope nHLine pHLine (defScope sHLine) := ⟨rfl, rfl, rfl, by decide +kernel, rfl, by decide +kernel, by decide +kernel⟩
abbrev sHDo : Stmt := inClass (topS 20) 3
abbrev nHDo : List Str := ["self", "name"]
abbrev pHDo : List Str := ["self", "name"]
theorem scHDo : FnScope nHDo pHDo (defScope sHDo) := ⟨rfl, rfl, rfl, by decide +kernel, rfl, by decide +kernel, by decide +kernel⟩
abbrev sHUndo : Stmt := inClass (topS 20) 4
abbrev nHUndo : List Str := ["self", "amount", "kept"]
abbrev pHUndo : List Str := ["self", "amount"]
theorem scHUndo : FnScope nHUndo pHUndo (defScope sHUndo) := ⟨rfl, rfl, rfl, by decide +kernel, rfl, by decide +kernel, by decide +kernel⟩
abbrev sHRedo : Stmt := inClass (topS 20) 5
abbrev nHRedo : List Str := ["self", "amount", "moved"]
abbrev pHRedo : List Str := ["self", "amount"]
theorem scHRedo : FnScope nHRedo pHRedo (defScope sHRedo) := ⟨rfl, rfl, rfl, by decide +kernel, rfl, by decide +kernel, by decide +kernel⟩
abbrev sHEq : Stmt := inClass (topS 20) 8
abbrev nHEq : List Str := ["self", "other"]
abbrev pHEq : List Str := ["self", "other"]
theorem scHEq : FnScope nHEq pHEq (defScope sHEq) := ⟨rfl, rfl, rfl, by decide +kernel, rfl, by decide +kernel, by decide +kernel⟩
abbrev sHStr : Stmt := inClass (topS 20) 9
abbrev nHStr : List Str := ["self"]
abbrev pHStr : List Str := ["self"]
theorem scHStr : FnScope nHStr pHStr (defScope sHStr) := ⟨rfl, rfl, rfl, by decide +kernel, rfl, by decide +kernel, by decide +kernel⟩
abbrev sHOf : Stmt := inClass (topS 20) 1
abbrev nHOf : List Str := ["cls", "names"]
abbrev pHOf : List Str := ["cls", "names"]
theorem scHOf : FnScope nHOf pHOf (defScope sHOf) := ⟨rfl, rfl, rfl, by decide +kernel, rfl, by decide +kernel, by decide +kernel⟩
abbrev sPInit : Stmt := inClass (topS 36) 0
abbrev nPInit : List Str := ["self", "joined", "commands", "at", "command", "program"]
abbrev pPInit : List Str := ["self", "joined", "commands"]
theorem scPInit : FnScope nPInit pPInit (defScope sPInit) := ⟨rfl, rfl, rfl, by decide +kernel, rfl, by decide +kernel, by decide +kernel⟩
abbrev sPRead : Stmt := inClass (topS 36) 1
abbrev nPRead : List Str := ["cls", "text", "known", "commands", "part"]
abbrev pPRead : List Str := ["cls", "text"]
theorem scPRead : FnScope nPRead pPRead (defScope sPRead) := ⟨rfl, rfl, rfl, by decide +kernel, rfl, by decide +kernel, by decide +kernel⟩
abbrev sIsCmd : Stmt := inClass (topS 36) 2
abbrev nIsCmd : List Str := ["value"]
abbrev pIsCmd : List Str := ["value"]
theorem scIsCmd : FnScope nIsCmd pIsCmd (defScope sIsCmd) := ⟨rfl, rfl, rfl, by decide +kernel, rfl, by decide +kernel, by decide +kernel⟩
abbrev sPLen : Stmt := inClass (topS 36) 7
abbrev nPLen : List Str := ["self"]
abbrev pPLen : List Str := ["self"]
theorem scPLen : FnScope nPLen pPLen (defScope sPLen) := ⟨rfl, rfl, rfl, by decide +kernel, rfl, by decide +kernel, by decide +kernel⟩
abbrev sPEq : Stmt := inClass (topS 36) 9
abbrev nPEq : List Str := ["self", "other"]
abbrev pPEq : List Str := ["self", "other"]
theorem scPEq : FnScope nPEq pPEq (defScope sPEq) := ⟨rfl, rfl, rfl, by decide +kernel, rfl, by decide +kernel, by decide +kernel⟩
abbrev sPStr : Stmt := inClass (topS 36) 10
abbrev nPStr : List Str := ["self", "command"]
abbrev pPStr : List Str := ["self"]
theorem scPStr : FnScope nPStr pPStr (defScope sPStr) := ⟨rfl, rfl, rfl, by decide +kernel, rfl, by decide +kernel, by decide +kernel⟩
abbrev sPRepr : Stmt := inClass (topS 36) 11
abbrev nPRepr : List Str := ["self"]
abbrev pPRepr : List Str := ["self"]
theorem scPRepr : FnScope nPRepr pPRepr (defScope sPRepr) := ⟨rfl, rfl, rfl, by decide +kernel, rfl, by decide +kernel, by decide +kernel⟩

structure TX (K : PySem.W.Frag) (mg : Str → Option Value) : Type where
  f_is_integer : Addr
  fd_is_integer : FuncData
  d_is_integer : FD K mg "is_integer" sIsInt pIsInt f_is_integer fd_is_integer
  f_is_name : Addr
  fd_is_name : FuncData
  d_is_name : FD K mg "is_name" sIsName pIsName f_is_name fd_is_name
  f_is_amount : Addr
  fd_is_amount : FuncData
  d_is_amount : FD K mg "is_amount" sIsAm pIsAm f_is_amount fd_is_amount
  f_check_name : Addr
  fd_check_name : FuncData
  d_check_name : FD K mg "check_name" sChName pChName f_check_name fd_check_name
  f_check_names : Addr
  fd_check_names : FuncData
  d_check_names : FD K mg "check_names" sChNames pChNames f_check_names fd_check_names
  f_check_amount : Addr
  fd_check_amount : FuncData
  d_check_amount : FD K mg "check_amount" sChAm pChAm f_check_amount fd_check_amount
  f_number_moved : Addr
  fd_number_moved : FuncData
  d_number_moved : FD K mg "number_moved" sMoved pMoved f_number_moved fd_number_moved
  f_history_with : Addr
  fd_history_with : FuncData
  d_history_with : FD K mg "history_with" sHWith pHWith f_history_with fd_history_with
  f_check_history : Addr
  fd_check_history : FuncData
  d_check_history : FD K mg "check_history" sChHist pChHist f_check_history fd_check_history
  f_is_step : Addr
  fd_is_step : FuncData
  d_is_step : FD K mg "is_step" sIsStep pIsStep f_is_step fd_is_step
  f_is_repeat : Addr
  fd_is_repeat : FuncData
  d_is_repeat : FD K mg "is_repeat" sIsRep pIsRep f_is_repeat fd_is_repeat
  f_command_text : Addr
  fd_command_text : FuncData
  d_command_text : FD K mg "command_text" sCmdTx pCmdTx f_command_text fd_command_text
  f_place_after_steps : Addr
  fd_place_after_steps : FuncData
  d_place_after_steps : FD K mg "place_after_steps" sPSteps pPSteps f_place_after_steps fd_place_after_steps
  f_shift_of_steps : Addr
  fd_shift_of_steps : FuncData
  d_shift_of_steps : FD K mg "shift_of_steps" sShift pShift f_shift_of_steps fd_shift_of_steps
  f_place_after_repeat : Addr
  fd_place_after_repeat : FuncData
  d_place_after_repeat : FD K mg "place_after_repeat" sPRep pPRep f_place_after_repeat fd_place_after_repeat
  f_place_after : Addr
  fd_place_after : FuncData
  d_place_after : FD K mg "place_after" sPAft pPAft f_place_after fd_place_after
  f_number_in : Addr
  fd_number_in : FuncData
  d_number_in : FD K mg "number_in" sNumIn pNumIn f_number_in fd_number_in
  f_step_in : Addr
  fd_step_in : FuncData
  d_step_in : FD K mg "step_in" sStepIn pStepIn f_step_in fd_step_in
  f_repeat_in : Addr
  fd_repeat_in : FuncData
  d_repeat_in : FD K mg "repeat_in" sRepIn pRepIn f_repeat_in fd_repeat_in
  f_command_in : Addr
  fd_command_in : FuncData
  d_command_in : FD K mg "command_in" sCmdIn pCmdIn f_command_in fd_command_in
  f_program_of : Addr
  fd_program_of : FuncData
  d_program_of : FD K mg "program_of" sPOf pPOf f_program_of fd_program_of
  f_check_program : Addr
  fd_check_program : FuncData
  d_check_program : FD K mg "check_program" sChProg pChProg f_check_program fd_check_program
  f_law_cell : Addr
  fd_law_cell : FuncData
  d_law_cell : FD K mg "_law_cell" sCell pCell f_law_cell fd_law_cell
  f_law_pool : Addr
  fd_law_pool : FuncData
  d_law_pool : FD K mg "_law_pool" sPool pPool f_law_pool fd_law_pool
  f_law_draw : Addr
  fd_law_draw : FuncData
  d_law_draw : FD K mg "_law_draw" sDraw pDraw f_law_draw fd_law_draw
  f_law_calls : Addr
  fd_law_calls : FuncData
  d_law_calls : FD K mg "_law_calls" sCalls pCalls f_law_calls fd_law_calls
  f_law_amount : Addr
  fd_law_amount : FuncData
  d_law_amount : FD K mg "_law_amount" sAmnt pAmnt f_law_amount fd_law_amount
  f_law_moves : Addr
  fd_law_moves : FuncData
  d_law_moves : FD K mg "_law_moves" sMoves pMoves f_law_moves fd_law_moves
  f_law_steps : Addr
  fd_law_steps : FuncData
  d_law_steps : FD K mg "_law_steps" sSteps pSteps f_law_steps fd_law_steps
  f_law_is_whole : Addr
  fd_law_is_whole : FuncData
  d_law_is_whole : FD K mg "_law_is_whole" sLWhole pLWhole f_law_is_whole fd_law_is_whole
  f_law_is_call : Addr
  fd_law_is_call : FuncData
  d_law_is_call : FD K mg "_law_is_call" sLCall pLCall f_law_is_call fd_law_is_call
  f_law_is_move : Addr
  fd_law_is_move : FuncData
  d_law_is_move : FD K mg "_law_is_move" sLMove pLMove f_law_is_move fd_law_is_move
  f_law_is_step : Addr
  fd_law_is_step : FuncData
  d_law_is_step : FD K mg "_law_is_step" sLStep pLStep f_law_is_step fd_law_is_step
  f_law_odd : Addr
  fd_law_odd : FuncData
  d_law_odd : FD K mg "_law_odd" sLOdd pLOdd f_law_odd fd_law_odd
  f_law_part : Addr
  fd_law_part : FuncData
  d_law_part : FD K mg "_law_part" sLPart pLPart f_law_part fd_law_part
  f_law_bent : Addr
  fd_law_bent : FuncData
  d_law_bent : FD K mg "_law_bent" sBent pBent f_law_bent fd_law_bent
  f_law_right : Addr
  fd_law_right : FuncData
  d_law_right : FD K mg "_law_right" sRight pRight f_law_right fd_law_right
  f_law : Addr
  fd_law : FuncData
  d_law : FD K mg "law" sLaw pLaw f_law fd_law
  abs : mg "abs" = none
  all : mg "all" = none
  any : mg "any" = none
  bool : mg "bool" = none
  divmod : mg "divmod" = none
  enumerate : mg "enumerate" = none
  int : mg "int" = none
  isinstance : mg "isinstance" = none
  len : mg "len" = none
  list : mg "list" = none
  max : mg "max" = none
  min : mg "min" = none
  range : mg "range" = none
  repr : mg "repr" = none
  str : mg "str" = none
  sum : mg "sum" = none
  tuple : mg "tuple" = none
  mLONGEST_NAME : ∃ t, mg "LONGEST_NAME" = some (.int 8 t)
  mBEFORE_STEPS : ∃ t, mg "BEFORE_STEPS" = some (.str (Str.ofString "times (") t)
  mAFTER_STEPS : ∃ t, mg "AFTER_STEPS" = some (.str (Str.ofString ")") t)
  C_History : Addr
  m_History : mg "History" = some (.ref C_History)
  cl_History : Cls K C_History
  is_History : C8.InsC K C_History
  n_History_past : NoAttr K C_History "past"
  n_History_future : NoAttr K C_History "future"
  f_History_init : Addr
  fd_History_init : FuncData
  e0_History_init : Addr
  t0_History_init : ∀ H, SqT K H e0_History_init []
  e1_History_init : Addr
  t1_History_init : ∀ H, SqT K H e1_History_init []
  F_History_init : FunD K "__init__" "History.__init__" (defArgs sHInit) (defBody sHInit) (defScope sHInit) [V.ref e0_History_init, V.ref e1_History_init] [] f_History_init fd_History_init
  mk_History : Mk K C_History f_History_init
  ds0_History_init : List Value
  v0_History_init : Vals [V.ref e0_History_init, V.ref e1_History_init] ds0_History_init
  b0_History_init : Binds K fd_History_init pHInit ds0_History_init
  ds1_History_init : List Value
  v1_History_init : Vals [V.ref e1_History_init] ds1_History_init
  b1_History_init : Binds K fd_History_init pHInit ds1_History_init
  ds2_History_init : List Value
  v2_History_init : Vals [] ds2_History_init
  b2_History_init : Binds K fd_History_init pHInit ds2_History_init
  f_History_line : Addr
  fd_History_line : FuncData
  F_History_line : FunD K "line" "History.line" (defArgs sHLine) (defBody sHLine) (defScope sHLine) [] [] f_History_line fd_History_line
  q_History_line : Addr
  pr_History_line : PropOf K C_History "line" q_History_line f_History_line
  b_History_line : Binds K fd_History_line pHLine []
  f_History_do : Addr
  fd_History_do : FuncData
  F_History_do : FunD K "do" "History.do" (defArgs sHDo) (defBody sHDo) (defScope sHDo) [] [] f_History_do fd_History_do
  me_History_do : Meth K C_History "do" f_History_do
  b_History_do : Binds K fd_History_do pHDo []
  f_History_undo : Addr
  fd_History_undo : FuncData
  F_History_undo : FunD K "undo" "History.undo" (defArgs sHUndo) (defBody sHUndo) (defScope sHUndo) [V.int 1] [] f_History_undo fd_History_undo
  me_History_undo : Meth K C_History "undo" f_History_undo
  b_History_undo : Binds K fd_History_undo pHUndo []
  ds0_History_undo : List Value
  v0_History_undo : Vals [V.int 1] ds0_History_undo
  b0_History_undo : Binds K fd_History_undo pHUndo ds0_History_undo
  f_History_redo : Addr
  fd_History_redo : FuncData
  F_History_redo : FunD K "redo" "History.redo" (defArgs sHRedo) (defBody sHRedo) (defScope sHRedo) [V.int 1] [] f_History_redo fd_History_redo
  me_History_redo : Meth K C_History "redo" f_History_redo
  b_History_redo : Binds K fd_History_redo pHRedo []
  ds0_History_redo : List Value
  v0_History_redo : Vals [V.int 1] ds0_History_redo
  b0_History_redo : Binds K fd_History_redo pHRedo ds0_History_redo
  f_History_eq : Addr
  fd_History_eq : FuncData
  F_History_eq : FunD K "__eq__" "History.__eq__" (defArgs sHEq) (defBody sHEq) (defScope sHEq) [] [] f_History_eq fd_History_eq
  eo_History : EqOwn K C_History f_History_eq
  b_History_eq : Binds K fd_History_eq pHEq []
  f_History_str : Addr
  fd_History_str : FuncData
  F_History_str : FunD K "__str__" "History.__str__" (defArgs sHStr) (defBody sHStr) (defScope sHStr) [] [] f_History_str fd_History_str
  st_History : StrOwn K C_History f_History_str
  b_History_str : Binds K fd_History_str pHStr []
  f_History_of : Addr
  F_History_of : FunS K "of" "History.of" sHOf ["cls"] "names" f_History_of
  q_History_of : Addr
  cm_History_of : ClX.CMet K C_History (.type "type") "of" q_History_of f_History_of
  cr_History : ClX.CRead K C_History (.type "type")
  C_Program : Addr
  m_Program : mg "Program" = some (.ref C_Program)
  cl_Program : Cls K C_Program
  is_Program : C8.InsC K C_Program
  kt_of_Program_tuple : PySem.W.kitOne K (.ref C_Program) (.type "tuple") = some false
  n_Program_commands : NoAttr K C_Program "commands"
  n_Program___bool__ : NoAttr K C_Program "__bool__"
  f_Program_init : Addr
  e0_Program_init : Addr
  t0_Program_init : ∀ H, SqT K H e0_Program_init []
  F_Program_init : FunSK K "__init__" "Program.__init__" sPInit ["self"] "joined" "commands" (V.ref e0_Program_init) f_Program_init
  mk_Program : Mk K C_Program f_Program_init
  f_Program_read : Addr
  fd_Program_read : FuncData
  F_Program_read : FunD K "read" "Program.read" (defArgs sPRead) (defBody sPRead) (defScope sPRead) [] [] f_Program_read fd_Program_read
  q_Program_read : Addr
  cm_Program_read : ClX.CMet K C_Program (.type "type") "read" q_Program_read f_Program_read
  b_Program_read : Binds K fd_Program_read pPRead []
  f_Program_is_command : Addr
  fd_Program_is_command : FuncData
  kb_Program_is_command : KBinds K fd_Program_is_command pIsCmd ["value"] (gK 0 1) (gK 0 1)
  F_Program_is_command : FunD K "is_command" "Program.is_command" (defArgs sIsCmd) (defBody sIsCmd) (defScope sIsCmd) [] [] f_Program_is_command fd_Program_is_command
  q_Program_is_command : Addr
  cs_Program_is_command : CStat K C_Program (.type "type") "is_command" q_Program_is_command f_Program_is_command
  cr_Program : ClX.CRead K C_Program (.type "type")
  b_Program_is_command : Binds K fd_Program_is_command pIsCmd []
  si_Program_is_command : SInst K C_Program "is_command" q_Program_is_command f_Program_is_command
  f_Program_len : Addr
  fd_Program_len : FuncData
  F_Program_len : FunD K "__len__" "Program.__len__" (defArgs sPLen) (defBody sPLen) (defScope sPLen) [] [] f_Program_len fd_Program_len
  ln_Program : OwnM K C_Program "__len__" f_Program_len
  b_Program_len : Binds K fd_Program_len pPLen []
  f_Program_eq : Addr
  fd_Program_eq : FuncData
  F_Program_eq : FunD K "__eq__" "Program.__eq__" (defArgs sPEq) (defBody sPEq) (defScope sPEq) [] [] f_Program_eq fd_Program_eq
  eo_Program : EqOwn K C_Program f_Program_eq
  b_Program_eq : Binds K fd_Program_eq pPEq []
  f_Program_str : Addr
  fd_Program_str : FuncData
  F_Program_str : FunD K "__str__" "Program.__str__" (defArgs sPStr) (defBody sPStr) (defScope sPStr) [] [] f_Program_str fd_Program_str
  st_Program : StrOwn K C_Program f_Program_str
  b_Program_str : Binds K fd_Program_str pPStr []
  f_Program_repr : Addr
  fd_Program_repr : FuncData
  F_Program_repr : FunD K "__repr__" "Program.__repr__" (defArgs sPRepr) (defBody sPRepr) (defScope sPRepr) [] [] f_Program_repr fd_Program_repr
  rp_Program : OwnM K C_Program "__repr__" f_Program_repr
  b_Program_repr : Binds K fd_Program_repr pPRepr []

section
variable {P : Program} {w : World} {K : PySem.W.Frag} {mg : Str → Option Value} {base : Heap}
theorem str_at {ns : List Str} {i : Nat} {x : V} (h : (ns.map V.str)[i]? = some x) : ∃ z, x = .str z ∧ z ∈ ns := by
  rw [List.getElem?_map] at h
  cases e : ns[i]? with
  | none =>
    rw [e] at h
    cases h
  | some z =>
    rw [e] at h
    exact ⟨z, (Option.some.inj h).symm, List.mem_of_getElem? e⟩
/-! ### names -/
def rMB (g : Str → Bool) (x : V) (xs : List V) (H : Hp) (Q : VK) : Prop := ∃ a, x = .str a ∧ xs = [] ∧ True ∧ Q (.bl (g a)) H
theorem mrAscii {X : Cx} : MtR X "str.isascii" (rMB Txt.isascii) := mt_isascii
theorem mrAlpha {X : Cx} : MtR X "str.isalpha" (rMB Txt.isalpha) := mt_isalpha
theorem mrLower {X : Cx} : MtR X "str.islower" (rMB Txt.islower) := mt_islower
theorem mrDigit {X : Cx} : MtR X "str.isdigit" (rMB Txt.isdigit) := mt_isdigit
theorem c_m0 {g : Str → Bool} {te : TE} {σ : L2.St} {H : Hp} {Q : VK} (h : te σ H fun x H1 => (∃ a, x = .str a) ∧ rMB g x [] H1 Q) : tM0 (rMB g) te σ H Q := h
theorem c_rMB {g : Str → Bool} {z : Str} {b : Bool} {H : Hp} {Q : VK} (e : g z = b) (h : Q (.bl b) H) : rMB g (.str z) [] H Q := ⟨z, rfl, rfl, trivial, by rw [e]; exact h⟩
theorem low_table : (∀ c < 123, 97 ≤ c → Unicode.isAlpha c = true) ∧ (∀ c < 123, 97 ≤ c → Unicode.isLower c = true) ∧ ∀ c < 123, 97 ≤ c → (Unicode.isUpper c || Unicode.isTitle c) = false := by decide +kernel
theorem IsName.ascii {z : Str} (h : IsName z) : Txt.isascii z = true := by
  unfold Txt.isascii
  rw [← Array.all_toList, List.all_eq_true]
  exact fun c hc => decide_eq_true (by have := h.low c hc; omega)
theorem IsName.alpha {z : Str} (h : IsName z) : Txt.isalpha z = true := by
  unfold Txt.isalpha
  rw [decide_eq_true (by have := h.lo; omega : z.length > 0), ← Array.all_toList, Bool.true_and, List.all_eq_true]
  exact fun c hc => low_table.1 c (by have := h.low c hc; omega) (h.low c hc).1
theorem IsName.lower {z : Str} (h : IsName z) : Txt.islower z = true := by
  unfold Txt.islower
  rw [← Array.any_toList, ← Array.any_toList]
  have h1 : z.cps.toList.any Unicode.isLower = true := by
    rw [List.any_eq_true]
    have l := h.lo
    rw [← len_codes] at l
    refine ⟨z.cps.toList[0], List.getElem_mem _, ?_⟩
    have := h.low _ (List.getElem_mem (h := l))
    exact low_table.2.1 _ (by omega) this.1
  have h2 : (z.cps.toList.any fun c => Unicode.isUpper c || Unicode.isTitle c) = false := by
    rw [List.any_eq_false]
    intro c hc
    have := h.low c hc
    rw [low_table.2.2 c (by omega) this.1]
    decide
  rw [h1, h2]
  rfl
local macro_rules | `(tactic| walk_at "u") => `(tactic| with_reducible refine c_m0 ?_)
def spIsName : Sp := fun vs H Q _ => ∃ z : Str, vs = [.str z] ∧ IsName z ∧ ∀ H', Same H H' → Q (.bl true) H'
theorem ok_is_name (T : TX K mg) : FnOk P w K mg base CX0 1 T.f_is_name T.fd_is_name pIsName spIsName := by
  refine T.d_is_name.F.ok scIsName (fun vs H Q E h => ?_) (fun cdv A outer s H vs Q E hr h => ?_)
  · obtain ⟨z, rfl, _⟩ := h
    rfl
  · obtain ⟨z, rfl, hz, q⟩ := h
    refine ⟨_, pss_cons (ps_if (PW.pt (pw_or (pt_not (pt_val (pe_callB (callIsi (K := K)) (by rfl) T.isinstance (by decide +kernel) (pa_cons (pv 0) (pa_cons (pe_bltn (v := .ty "str") (by rfl) T.str (by decide +kernel) rfl) pa_nil))))) (pw_or1 (pt_cmpR op_gt (pe_callB callLnS (by rfl) T.len (by decide +kernel) (pa_cons (pv 0) pa_nil)) (peGlobI rfl T.mLONGEST_NAME) (nomark _))))) (pss_one (ps_ret (pe_bl))) (pss_nil))
      (pss_one (ps_ret (pe_and (pe_m0 PySem.F.slot_str_isascii PySem.F.type_str_isascii mrAscii (pv 0)) (pe_and (pe_m0 PySem.F.slot_str_isalpha PySem.F.type_str_isalpha mrAlpha (pv 0)) (pe_one (pe_m0 PySem.F.slot_str_islower PySem.F.type_str_islower mrLower (pv 0))))))), ?_⟩
    walk_at "go"
    refine c_isi (r := true) (ty_str z) (by decide +kernel) ?_
    walk_at "go"
    have h1 := hz.lo
    have h8 := hz.hi
    refine c_lnS (by omega) ?_
    walk_at "go"
    refine c_rMB hz.ascii ?_
    walk_at "go"
    refine c_rMB hz.alpha ?_
    walk_at "go"
    refine c_rMB hz.lower ?_
    exact q H (Same.refl _)
/-- an amount: None for all, or an int from 1 on -/
def AmOf : V → Option Int → Prop
  | .non, none => True
  | .int n, some m => n = m ∧ 1 ≤ m
  | _, _ => False
theorem AmOf.cases {x : V} {am : Option Int} (h : AmOf x am) : (x = .non ∧ am = none) ∨ ∃ n, x = .int n ∧ am = some n ∧ 1 ≤ n := by
  cases x <;> cases am <;> simp [AmOf] at h
  · exact .inl ⟨rfl, rfl⟩
  · obtain ⟨rfl, h⟩ := h
    exact .inr ⟨_, rfl, rfl, h⟩
def spIsAm : Sp := fun vs H Q _ => ∃ x am, vs = [x] ∧ AmOf x am ∧ Q (.bl true) H
theorem ok_is_amount (T : TX K mg) : FnOk P w K mg base CX0 2 T.f_is_amount T.fd_is_amount pIsAm spIsAm := by
  refine T.d_is_amount.F.ok scIsAm (fun vs H Q E h => ?_) (fun cdv A outer s H vs Q E hr h => ?_)
  · obtain ⟨x, am, rfl, _⟩ := h
    rfl
  · obtain ⟨x, am, rfl, ha, q⟩ := h
    refine ⟨_, pss_one (ps_ret (pe_or (pe_cmpR op_isN (pv 0) (pe_non) (nomark _)) (pe_one (pe_and (pe_callB (callIsi (K := K)) (by rfl) T.isinstance (by decide +kernel) (pa_cons (pv 0) (pa_cons (pe_bltn (v := .ty "int") (by rfl) T.int (by decide +kernel) rfl) pa_nil))) (pe_and (pe_not (pe_callB (callIsi (K := K)) (by rfl) T.isinstance (by decide +kernel) (pa_cons (pv 0) (pa_cons (pe_bltn (v := .ty "bool") (by rfl) T.bool (by decide +kernel) rfl) pa_nil)))) (pe_one (pe_cmpR op_ge (pv 0) (pe_int) (nomark _)))))))), ?_⟩
    walk_at "go"
    refine ⟨rfl, ?_⟩
    rcases ha.cases with ⟨rfl, rfl⟩ | ⟨n, rfl, rfl, hn⟩
    · walk_at "go"
      exact q
    · walk_at "go"
      refine c_isi (r := true) (ty_int n) (by decide +kernel) ?_
      walk_at "go"
      refine c_isi (r := false) (ty_int n) (by decide +kernel) ?_
      walk_at "go"
      rw [decide_eq_true hn]
      exact q
/-! ### checks that pass -/
def spChName : Sp := fun vs H Q _ => ∃ z : Str, vs = [.str z] ∧ IsName z ∧ ∀ H', Same H H' → Q .non H'
theorem ok_check_name (T : TX K mg) : FnOk P w K mg base CX0 2 T.f_check_name T.fd_check_name pChName spChName := by
  have G_is_name := ok_is_name (P := P) (w := w) (base := base) T
  refine T.d_check_name.F.ok scChName (fun vs H Q E h => ?_) (fun cdv A outer s H vs Q E hr h => ?_)
  · obtain ⟨z, rfl, _⟩ := h
    rfl
  · obtain ⟨z, rfl, hz, q⟩ := h
    refine ⟨_, pss_one (ps_if (pt_not (pt_val (pcall T.d_is_name G_is_name (hr.mono (by decide)) (by rfl) pass0 (pa_cons (pv 0) pa_nil)))) (pss_one (ps_never)) (pss_nil)), ?_⟩
    walk_at "go"
    refine ⟨z, rfl, hz, fun H1 s1 => ?_⟩
    walk_at "go"
    exact q H1 s1
def spChAm : Sp := fun vs H Q _ => ∃ x am, vs = [x] ∧ AmOf x am ∧ Q .non H
theorem ok_check_amount (T : TX K mg) : FnOk P w K mg base CX0 3 T.f_check_amount T.fd_check_amount pChAm spChAm := by
  have G_is_amount := ok_is_amount (P := P) (w := w) (base := base) T
  refine T.d_check_amount.F.ok scChAm (fun vs H Q E h => ?_) (fun cdv A outer s H vs Q E hr h => ?_)
  · obtain ⟨x, am, rfl, _⟩ := h
    rfl
  · obtain ⟨x, am, rfl, ha, q⟩ := h
    refine ⟨_, pss_one (ps_if (pt_not (pt_val (pcall T.d_is_amount G_is_amount (hr.mono (by decide)) (by rfl) pass0 (pa_cons (pv 0) pa_nil)))) (pss_one (ps_never)) (pss_nil)), ?_⟩
    walk_at "go"
    refine ⟨x, am, rfl, ha, ?_⟩
    walk_at "go"
    exact q
def spChNames (K : PySem.W.Frag) : Sp := fun vs H Q _ => ∃ (a : Addr) (ns : List Str), vs = [.ref a] ∧ SqT K H a (ns.map V.str) ∧ (∀ z ∈ ns, IsName z) ∧ ∀ H', Same H H' → Q .non H'
theorem ok_check_names (T : TX K mg) : FnOk P w K mg base CX0 2 T.f_check_names T.fd_check_names pChNames (spChNames K) := by
  refine T.d_check_names.F.ok scChNames (fun vs H Q E h => ?_) (fun cdv A outer s H vs Q E hr h => ?_)
  · obtain ⟨a, ns, rfl, _⟩ := h
    rfl
  · obtain ⟨a, ns, rfl, hT, hn, q⟩ := h
    refine ⟨_, pss_cons (ps_if (pt_not (pt_val (pe_callB (callIsi (K := K)) (by rfl) T.isinstance (by decide +kernel) (pa_cons (pv 0) (pa_cons (pe_bltn (v := .ty "tuple") (by rfl) T.tuple (by decide +kernel) rfl) pa_nil))))) (pss_one (ps_never)) (pss_nil))
      (pss_one (ps_for PassesOwn.never rfl (pi_enumT (by rfl) T.enumerate (pa_cons (pv 0) pa_nil)) (pgTup (K := K) (n := 2) (by rfl) (pgs_cons (pg_name (i := 1) scChNames.nd rfl (.inl rfl)) (pgs_cons (pg_name (i := 2) scChNames.nd rfl (.inl rfl)) pgs_nil)))
        (pss_one (ps_if (PW.pt (pw_or (pt_not (pt_val (pe_callB (callIsi (K := K)) (by rfl) T.isinstance (by decide +kernel) (pa_cons (pv 2) (pa_cons (pe_bltn (v := .ty "str") (by rfl) T.str (by decide +kernel) rfl) pa_nil))))) (pw_or (pt_cmpR op_gt (pe_callB callLnS (by rfl) T.len (by decide +kernel) (pa_cons (pv 2) pa_nil)) (peGlobI rfl T.mLONGEST_NAME) (nomark _)) (pw_or1 (pt_not (PW.pt (pw_and (pt_val (pe_m0 PySem.F.slot_str_isascii PySem.F.type_str_isascii mrAscii (pv 2))) (pw_and (pt_val (pe_m0 PySem.F.slot_str_isalpha PySem.F.type_str_isalpha mrAlpha (pv 2))) (pw_and1 (pt_val (pe_m0 PySem.F.slot_str_islower PySem.F.type_str_islower mrLower (pv 2)))))))))))) (pss_one (ps_never)) (pss_nil))))), ?_⟩
    walk_at "go"
    refine c_isi (r := true) (ty_tup hT) (by decide +kernel) ?_
    walk_at "go"
    refine ⟨a, _, rfl, hT, ?_⟩
    refine for_enumT (xs := ns.map V.str) (fun i σ H' => Same H H' ∧ ∃ x y, σ = [some (.ref a), x, y]) ⟨Same.refl _, _, _, rfl⟩ (fun i σ H' _ h => same_seqT h.1 hT) (fun i x t σ H' hx h nt => ?_) (fun σ H' h => ?_)
    · obtain ⟨s1, y1, y2, rfl⟩ := h
      obtain ⟨z, rfl, hz⟩ := str_at hx
      have nz := hn z hz
      have h1 := nz.lo
      have h8 := nz.hi
      refine c_gtup (.inl (.inl upd_same)) rfl ?_
      walk_at "go"
      refine c_isi (r := true) (ty_str z) (by decide +kernel) ?_
      walk_at "go"
      refine c_lnS (by omega) ?_
      walk_at "go"
      refine c_rMB nz.ascii ?_
      walk_at "go"
      refine c_rMB nz.alpha ?_
      walk_at "go"
      refine c_rMB nz.lower ?_
      walk_at "go"
      exact ⟨s1.trans (same_new nt), _, _, rfl⟩
    · exact q H' h.1
def mvd (am : Option Int) (n : Nat) : Nat := match am with
  | none => n
  | some m => min m.toNat n
def spMoved : Sp := fun vs H Q _ => ∃ (x : V) (am : Option Int) (n : Nat), vs = [x, .int (n : Int)] ∧ AmOf x am ∧ Q (.int (mvd am n : Int)) H
theorem ok_moved (T : TX K mg) : FnOk P w K mg base CX0 1 T.f_number_moved T.fd_number_moved pMoved spMoved := by
  refine T.d_number_moved.F.ok scMoved (fun vs H Q E h => ?_) (fun cdv A outer s H vs Q E hr h => ?_)
  · obtain ⟨x, am, n, rfl, _⟩ := h
    rfl
  · obtain ⟨x, am, n, rfl, ha, q⟩ := h
    refine ⟨_, pss_one (ps_ret (pe_ifExp (pt_cmpR op_isN (pv 0) (pe_non) (nomark _)) (pv 1) (pe_callB (callMin2 rfl) (by rfl) T.min (by decide +kernel) (pa_cons (pv 0) (pa_cons (pv 1) pa_nil))))), ?_⟩
    walk_at "go"
    refine ⟨rfl, ?_⟩
    rcases ha.cases with ⟨rfl, rfl⟩ | ⟨m, rfl, rfl, hn⟩
    · walk_at "go"
      exact q
    · walk_at "go"
      refine c_min2 ?_
      have e : min m (n : Int) = ((mvd (some m) n : Nat) : Int) := by
        show min m (n : Int) = ((min m.toNat n : Nat) : Int)
        omega
      rw [e]
      exact q
end
end Und
namespace Und
open PySem PySem.Spec PyProof.Rows L2
local macro_rules | `(tactic| walk_at "side") => `(tactic| first | decide | omega | exact ⟨by omega, by omega⟩ | (show (0 : Int) < _; omega) | (exact Or.inl ⟨by omega, by omega⟩) | (exact Or.inr ⟨by omega, by omega⟩) | (exact sz (by simp)) | (exact szl (by simp)))
local macro_rules | `(tactic| walk_at "u") => `(tactic| first
  | with_reducible refine c_seq ?_ | with_reducible refine c_next ?_ | with_reducible refine c_yes ?_ | with_reducible refine c_asg ?_ | with_reducible refine c_asg2 ?_ | with_reducible refine c_par ?_ | with_reducible refine c_two ?_ | with_reducible refine c_g ?_ | with_reducible refine c_gsub ?_ | with_reducible refine c_gcons ?_ | with_reducible refine c_gnil ?_ | with_reducible refine c_ret ?_ | with_reducible refine c_drop ?_
  | ((with_reducible refine c_var (v := ?v) ?h ?_); (case h => rfl)) | with_reducible refine c_c ?_ | with_reducible refine c_op ?_ | with_reducible refine c_un ?_ | with_reducible refine c_I0 ?_
  | ((with_reducible refine c_I ?h ?_); (case h => walk_at "side"))
  | ((with_reducible refine c_eq ?h ?_); (case h => rfl)) | ((with_reducible refine c_neq ?h ?_); (case h => rfl)) | with_reducible refine c_test ?_ | with_reducible refine c_B ?_ | with_reducible refine c_bl ?_ | with_reducible refine c_int ?_ | with_reducible refine c_ifs ?_ | with_reducible refine c_ife ?_
  | with_reducible refine c_andV ?_ | with_reducible refine c_orV ?_ | with_reducible refine c_notV ?_ | with_reducible refine c_and ?_ | with_reducible refine c_or ?_ | with_reducible refine c_not ?_
  | with_reducible refine c_call ?_ | with_reducible refine c_cb ?_ | with_reducible refine c_nil ?_ | with_reducible refine c_cons ?_
  | with_reducible refine c_tup ?_ | with_reducible refine c_lst ?_ | with_reducible refine c_sl ?_ | with_reducible refine c_nop ?_ | with_reducible refine c_part ?_ | with_reducible refine c_fld ?_
  | with_reducible refine c_for ?_ | with_reducible refine c_ilist ?_ | with_reducible refine c_itup ?_ | with_reducible refine c_irng1 ?_ | with_reducible refine c_lc ?_
  | with_reducible refine c_m1 ?_ | with_reducible refine c_isS ?_ | with_reducible refine c_chain ?_ | with_reducible refine c_str ?_ | with_reducible refine c_make ?_ | with_reducible refine c_meth ?_ | with_reducible refine c_prop ?_ | with_reducible refine c_sfld ?_ | with_reducible refine c_ienumT ?_ | with_reducible refine iteT ?_ | with_reducible refine iteF ?_ | with_reducible refine iteNT ?_ | with_reducible refine iteNF ?_
  | ((with_reducible refine iteDT ?h ?_); (case h => first | rfl | omega)) | ((with_reducible refine iteDF ?h ?_); (case h => first | omega | (intro z; cases z; done))) | ((with_reducible refine iteNDT ?h ?_); (case h => first | rfl | omega)) | ((with_reducible refine iteNDF ?h ?_); (case h => first | omega | (intro z; cases z; done))))
local macro_rules | `(tactic| walk_at "go") => `(tactic| repeat (walk_at "u"))
/-! ### a history -/
def flds (tp tf : Addr) : List (Str × V) := [("past", V.ref tp), ("future", V.ref tf)]
theorem k_pf : ¬ (("past" : Str) = "future") := by decide +kernel
theorem flds_put (tp tf : Addr) : putF "future" (.ref tf) (putF "past" (.ref tp) []) = flds tp tf := by
  show (if ("past" : Str) = "future" then _ else (("past" : Str), V.ref tp) :: putF "future" (V.ref tf) []) = flds tp tf
  rw [if_neg k_pf]
  all_goals rfl
theorem flds_past (tp tf : Addr) : (flds tp tf).lookup ("past" : Str) = some (.ref tp) := by
  rw [← flds_put, lookup_putF, if_neg k_pf, lookup_putF, if_pos rfl]
theorem flds_future (tp tf : Addr) : (flds tp tf).lookup ("future" : Str) = some (.ref tf) := by
  rw [← flds_put, lookup_putF, if_pos rfl]
theorem flds_no (tp tf : Addr) {m : Str} (h1 : ¬ m = "past") (h2 : ¬ m = "future") : (flds tp tf).lookup m = none := by
  rw [← flds_put, lookup_putF, if_neg h2, lookup_putF, if_neg h1]
  all_goals rfl
/-- a history of these names stands at a -/
structure HistAt (K : PySem.W.Frag) (C : Addr) (H : Hp) (a : Addr) (ps fs : List Str) : Prop where
  ob : ∃ dx tp tf, H a = some (.ins C dx (flds tp tf)) ∧ SqT K H tp (ps.map V.str) ∧ SqT K H tf (fs.map V.str)
  okp : ∀ z ∈ ps, IsName z
  okf : ∀ z ∈ fs, IsName z
  len : ps.length + fs.length ≤ 4000
theorem HistAt.mono {K : PySem.W.Frag} {C : Addr} {H H' : Hp} {a : Addr} {ps fs : List Str} (h : HistAt K C H a ps fs) (s : Same H H') : HistAt K C H' a ps fs := by
  obtain ⟨⟨dx, tp, tf, e, h1, h2⟩, a1, a2, l⟩ := h
  exact ⟨⟨dx, tp, tf, s _ _ e, same_seqT s h1, same_seqT s h2⟩, a1, a2, l⟩
/-! ### what the commands make -/
def hUndo (am : Option Int) (h : List Str × List Str) : List Str × List Str := (h.1.take (h.1.length - mvd am h.1.length), h.1.drop (h.1.length - mvd am h.1.length) ++ h.2)
def hRedo (am : Option Int) (h : List Str × List Str) : List Str × List Str := (h.1 ++ h.2.take (mvd am h.2.length), h.2.drop (mvd am h.2.length))
theorem cut_to (xs : List V) (k : Nat) (h : k ≤ xs.length) : cutV xs none (some (k : Int)) = xs.take k := by
  unfold cutV
  rw [HT.sIx_none, HT.sIx_nat, List.drop_zero, Nat.sub_zero, Nat.min_eq_left h]
theorem cut_from (xs : List V) (k : Nat) (h : k ≤ xs.length) : cutV xs (some (k : Int)) none = xs.drop k := by
  unfold cutV
  rw [HT.sIx_none, HT.sIx_nat, Nat.min_eq_left h]
  exact List.take_of_length_le (by rw [List.length_drop]; omega)
section
variable {P : Program} {w : World} {K : PySem.W.Frag} {mg : Str → Option Value} {base : Heap}
def spInit (K : PySem.W.Frag) (C : Addr) : Sp := fun vs H Q _ => ∃ (x dx tp tf : Addr) (ps fs : List Str), vs = [.ref x, .ref tp, .ref tf] ∧ H x = some (.ins C dx []) ∧ SqT K H tp (ps.map V.str) ∧ SqT K H tf (fs.map V.str) ∧ (∀ z ∈ ps, IsName z) ∧ (∀ z ∈ fs, IsName z) ∧
  ∀ H', (∀ b o, b ≠ x → H b = some o → H' b = some o) → H' x = some (.ins C dx (flds tp tf)) → Q .non H'
theorem ok_init (T : TX K mg) : FnOk P w K mg base CX0 3 T.f_History_init T.fd_History_init pHInit (spInit K T.C_History) := by
  have G_check_names := ok_check_names (P := P) (w := w) (base := base) T
  refine T.F_History_init.ok scHInit (fun vs H Q E h => ?_) (fun cdv A outer s H vs Q E hr h => ?_)
  · obtain ⟨x, dx, tp, tf, ps, fs, rfl, _⟩ := h
    rfl
  · obtain ⟨x, dx, tp, tf, ps, fs, rfl, hx, h1, h2, n1, n2, q⟩ := h
    refine ⟨_, pss_cons (ps_expr (pcall T.d_check_names G_check_names (hr.mono (by decide)) (by rfl) pass0 (pa_cons (pv 1) pa_nil)))
      (pss_cons (ps_expr (pcall T.d_check_names G_check_names (hr.mono (by decide)) (by rfl) pass0 (pa_cons (pv 2) pa_nil)))
      (pss_cons (ps_fld (pv 0) (pv 1) rfl)
      (pss_one (ps_fld (pv 0) (pv 2) rfl)))), ?_⟩
    walk_at "go"
    refine ⟨tp, ps, rfl, h1, n1, fun H1 s1 => ?_⟩
    walk_at "go"
    refine ⟨tf, fs, rfl, same_seqT s1 h2, n2, fun H2 s2 => ?_⟩
    have s02 := s1.trans s2
    walk_at "go"
    refine ⟨x, T.C_History, dx, [], rfl, s02 _ _ hx, T.cl_History, T.n_History_past, by decide, ?_⟩
    walk_at "go"
    refine ⟨x, T.C_History, dx, _, rfl, upd_same, T.cl_History, T.n_History_future, by show 1 < 1000; decide, ?_⟩
    rw [flds_put]
    refine q _ (fun b o hb e => ?_) upd_same
    rw [upd_ne hb, upd_ne hb]
    exact s02 _ _ e
/-- a history is made -/
theorem c_mkH {C tp tf : Addr} {ps fs : List Str} {H : Hp} {Q : VK} {E : XK} (h1 : SqT K H tp (ps.map V.str)) (h2 : SqT K H tf (fs.map V.str)) (n1 : ∀ z ∈ ps, IsName z) (n2 : ∀ z ∈ fs, IsName z) (l : ps.length + fs.length ≤ 4000)
    (q : ∀ r H', Same H H' → HistAt K C H' r ps fs → Q (.ref r) H') {vs : List V} (ev : vs = [.ref tp, .ref tf]) : rMk C (spInit K C) E vs H Q := fun x dx nx nd ne => by
  have s1 : Same H (upd (upd H dx (.own x)) x (.ins C dx [])) := fun b o e => by
    rw [upd_ne (ne_of_none e nx), upd_ne (ne_of_none e nd)]
    exact e
  refine ⟨x, dx, tp, tf, ps, fs, by rw [ev], upd_same, same_seqT s1 h1, same_seqT s1 h2, n1, n2, fun H' k ex => ⟨rfl, ?_⟩⟩
  have s2 : Same H H' := fun b o e => k b o (ne_of_none e nx) (s1 b o e)
  exact q x H' s2 ⟨⟨dx, tp, tf, ex, same_seqT s2 h1, same_seqT s2 h2⟩, n1, n2, l⟩
theorem flds_setp (tp tf x : Addr) : putF "past" (.ref x) (flds tp tf) = flds x tf := by
  show (if ("past" : Str) = "past" then _ else _) = flds x tf
  rw [if_pos rfl]
  all_goals rfl
theorem flds_setf (tp tf x : Addr) : putF "future" (.ref x) (flds tp tf) = flds tp x := by
  show (if ("past" : Str) = "future" then _ else (("past" : Str), V.ref tp) :: (if ("future" : Str) = "future" then _ else _)) = flds tp x
  rw [if_neg k_pf, if_pos rfl]
  all_goals rfl
/-- a history without items is made -/
theorem c_mk0 {C e0 e1 : Addr} {H : Hp} {Q : VK} {E : XK} (h0 : ∀ H, SqT K H e0 []) (h1 : ∀ H, SqT K H e1 [])
    (q : ∀ r dx H', H r = none → Same H H' → H' r = some (.ins C dx (flds e0 e1)) → Q (.ref r) H') {vs : List V} (ev : vs = [.ref e0, .ref e1]) : rMk C (spInit K C) E vs H Q := fun x dx nx nd ne => by
  refine ⟨x, dx, e0, e1, [], [], by rw [ev], upd_same, h0 _, h1 _, (fun z hz => by cases hz), (fun z hz => by cases hz), fun H' k ex => ⟨rfl, ?_⟩⟩
  exact q x dx H' nx (fun b o e => k b o (ne_of_none e nx) (by rw [upd_ne (ne_of_none e nx), upd_ne (ne_of_none e nd)]; exact e)) ex
def spHWith (K : PySem.W.Frag) (C : Addr) : Sp := fun vs H Q _ => ∃ (tp tf : Addr) (ps fs : List Str), vs = [.ref tp, .ref tf] ∧ SqT K H tp (ps.map V.str) ∧ SqT K H tf (fs.map V.str) ∧ (∀ z ∈ ps, IsName z) ∧ (∀ z ∈ fs, IsName z) ∧ ps.length + fs.length ≤ 4000 ∧ ∀ r H', Same H H' → HistAt K C H' r ps fs → Q (.ref r) H'
theorem ok_hwith (T : TX K mg) : FnOk P w K mg base CX0 5 T.f_history_with T.fd_history_with pHWith (spHWith K T.C_History) := by
  have G_History_init := ok_init (P := P) (w := w) (base := base) T
  refine T.d_history_with.F.ok scHWith (fun vs H Q E h => ?_) (fun cdv A outer s H vs Q E hr h => ?_)
  · obtain ⟨tp, tf, ps, fs, rfl, _⟩ := h
    rfl
  · obtain ⟨tp, tf, ps, fs, rfl, h1, h2, n1, n2, l, q⟩ := h
    refine ⟨_, pss_cons (ps_set (i := 2) scHWith.nd rfl (.inl rfl) (pe_make0 T.mk_History G_History_init (hr.mono (by decide)) (by rfl) T.m_History T.b0_History_init T.v0_History_init pass0))
      (pss_cons (ps_fld (pv 2) (pv 0) rfl)
      (pss_cons (ps_fld (pv 2) (pv 1) rfl)
      (pss_one (ps_ret (pv 2))))), ?_⟩
    walk_at "go"
    refine c_mk0 T.t0_History_init T.t1_History_init (fun r dx H1 nr s1 e1 => ?_) rfl
    walk_at "go"
    refine ⟨r, T.C_History, dx, _, rfl, e1, T.cl_History, T.n_History_past, by show 2 < 1000; decide, ?_⟩
    rw [flds_setp]
    walk_at "go"
    refine ⟨r, T.C_History, dx, _, rfl, upd_same, T.cl_History, T.n_History_future, by show 2 < 1000; decide, ?_⟩
    rw [flds_setf]
    have s2 : Same H (upd (upd H1 r (.ins T.C_History dx (flds tp T.e1_History_init))) r (.ins T.C_History dx (flds tp tf))) := fun b o e => by
      rw [upd_ne (ne_of_none e nr), upd_ne (ne_of_none e nr)]
      exact s1 _ _ e
    walk_at "go"
    exact q r _ s2 ⟨⟨dx, tp, tf, upd_same, same_seqT s2 h1, same_seqT s2 h2⟩, n1, n2, l⟩
def spDo (K : PySem.W.Frag) (C : Addr) : Sp := fun vs H Q _ => ∃ (a : Addr) (z : Str) (ps fs : List Str), vs = [.ref a, .str z] ∧ HistAt K C H a ps fs ∧ IsName z ∧ ps.length ≤ 3000 ∧ ∀ r H', Same H H' → HistAt K C H' r (ps ++ [z]) [] → Q (.ref r) H'
theorem ok_do (T : TX K mg) : FnOk P w K mg base CX0 6 T.f_History_do T.fd_History_do pHDo (spDo K T.C_History) := by
  have G_check_name := ok_check_name (P := P) (w := w) (base := base) T
  have G_history_with := ok_hwith (P := P) (w := w) (base := base) T
  refine T.F_History_do.ok scHDo (fun vs H Q E h => ?_) (fun cdv A outer s H vs Q E hr h => ?_)
  · obtain ⟨a, z, ps, fs, rfl, _⟩ := h
    rfl
  · obtain ⟨a, z, ps, fs, rfl, hA, hz, hl, q⟩ := h
    refine ⟨_, pss_cons (ps_expr (pcall T.d_check_name G_check_name (hr.mono (by decide)) (by rfl) pass0 (pa_cons (pv 1) pa_nil)))
      (pss_one (ps_ret (pcall T.d_history_with G_history_with (hr.mono (by decide)) (by rfl) pass0 (pa_cons (pe_op (opCatT (K := K)) (peFld (K := K) (pv 0) rfl) (pe_tup (pa_cons (pv 1) pa_nil))) (pa_cons (pe_tup (pa_nil)) pa_nil))))), ?_⟩
    walk_at "go"
    refine ⟨z, rfl, hz, fun H1 s1 => ?_⟩
    obtain ⟨⟨dx, tp, tf, e, h1, h2⟩, n1, n2, l⟩ := hA.mono s1
    walk_at "go"
    refine ⟨a, _, dx, _, _, rfl, e, T.cl_History, T.n_History_past, flds_past _ _, ?_⟩
    walk_at "go"
    refine c_newT (by simp) fun u H2 nu s2 e2 => ?_
    refine c_catT (ys := [z].map V.str) (same_seqT s2 h1) (.inl (.inl e2)) (by rw [List.length_map]; simp; omega) fun t H3 s3 ht => ?_
    rw [← List.map_append] at ht
    walk_at "go"
    refine c_newT (by simp) fun u2 H4 nu4 s4 e4 => ?_
    walk_at "go"
    refine ⟨t, u2, ps ++ [z], [], rfl, same_seqT s4 ht, .inl (.inl e4), (fun y hy => ?_), (fun y hy => by cases hy), (by simp; omega), fun r H5 s5 hR => q r H5 ((((s1.trans s2).trans s3).trans s4).trans s5) hR⟩
    rcases List.mem_append.mp hy with hy | hy
    · exact n1 y hy
    · have : y = z := by simpa using hy
      rw [this]
      exact hz
def spUndo (K : PySem.W.Frag) (C : Addr) : Sp := fun vs H Q _ => ∃ (a : Addr) (x : V) (am : Option Int) (ps fs : List Str), vs = [.ref a, x] ∧ AmOf x am ∧ HistAt K C H a ps fs ∧ ∀ r H', Same H H' → HistAt K C H' r (hUndo am (ps, fs)).1 (hUndo am (ps, fs)).2 → Q (.ref r) H'
theorem mvd_le (am : Option Int) (n : Nat) : mvd am n ≤ n := by
  unfold mvd
  split
  · exact Nat.le_refl _
  · exact Nat.min_le_right _ _
theorem ok_undo (T : TX K mg) : FnOk P w K mg base CX0 6 T.f_History_undo T.fd_History_undo pHUndo (spUndo K T.C_History) := by
  have G_check_amount := ok_check_amount (P := P) (w := w) (base := base) T
  have G_number_moved := ok_moved (P := P) (w := w) (base := base) T
  have G_history_with := ok_hwith (P := P) (w := w) (base := base) T
  refine T.F_History_undo.ok scHUndo (fun vs H Q E h => ?_) (fun cdv A outer s H vs Q E hr h => ?_)
  · obtain ⟨a, x, am, ps, fs, rfl, _⟩ := h
    rfl
  · obtain ⟨a, x, am, ps, fs, rfl, ha, ⟨⟨dx, tp, tf, e, h1, h2⟩, n1, n2, l⟩, q⟩ := h
    refine ⟨_, pss_cons (ps_expr (pcall T.d_check_amount G_check_amount (hr.mono (by decide)) (by rfl) pass0 (pa_cons (pv 1) pa_nil)))
      (pss_cons (ps_set (i := 2) scHUndo.nd rfl (.inl rfl) (pe_op op_sub (pe_callB (callLn (K := K)) (by rfl) T.len (by decide +kernel) (pa_cons (peFld (K := K) (pv 0) rfl) pa_nil)) (pcall T.d_number_moved G_number_moved (hr.mono (by decide)) (by rfl) pass0 (pa_cons (pv 1) (pa_cons (pe_callB (callLn (K := K)) (by rfl) T.len (by decide +kernel) (pa_cons (peFld (K := K) (pv 0) rfl) pa_nil)) pa_nil)))))
      (pss_one (ps_ret (pcall T.d_history_with G_history_with (hr.mono (by decide)) (by rfl) pass0 (pa_cons (pe_slice (slT (K := K)) (peFld (K := K) (pv 0) rfl) po_none (po_some (pv 2))) (pa_cons (pe_op (opCatT (K := K)) (pe_slice (slT (K := K)) (peFld (K := K) (pv 0) rfl) (po_some (pv 2)) po_none) (peFld (K := K) (pv 0) rfl)) pa_nil)))))), ?_⟩
    walk_at "go"
    refine ⟨x, am, rfl, ha, ?_⟩
    walk_at "go"
    refine ⟨a, _, dx, _, _, rfl, e, T.cl_History, T.n_History_past, flds_past _ _, ?_⟩
    walk_at "go"
    refine c_lnT h1 ?_
    walk_at "go"
    refine ⟨a, _, dx, _, _, rfl, e, T.cl_History, T.n_History_past, flds_past _ _, ?_⟩
    walk_at "go"
    refine c_lnT h1 ?_
    walk_at "go"
    rw [List.length_map]
    refine ⟨x, am, ps.length, rfl, ha, ?_⟩
    have lm := mvd_le am ps.length
    obtain ⟨k, ek, lk⟩ : ∃ k : Nat, ps.length - mvd am ps.length = k ∧ k ≤ ps.length := ⟨_, rfl, Nat.sub_le _ _⟩
    have ez : (ps.length : Int) - (mvd am ps.length : Int) = (k : Int) := by omega
    walk_at "go"
    rw [ez]
    walk_at "go"
    refine ⟨a, _, dx, _, _, rfl, e, T.cl_History, T.n_History_past, flds_past _ _, ?_⟩
    walk_at "go"
    refine c_slT h1 fun t1 H1 s1 ht1 => ?_
    rw [cut_to _ _ (by rw [List.length_map]; exact lk), ← List.map_take] at ht1
    walk_at "go"
    refine ⟨a, _, dx, _, _, rfl, s1 _ _ e, T.cl_History, T.n_History_past, flds_past _ _, ?_⟩
    walk_at "go"
    refine c_slT (same_seqT s1 h1) fun t2 H2 s2 ht2 => ?_
    rw [cut_from _ _ (by rw [List.length_map]; exact lk), ← List.map_drop] at ht2
    have s02 := s1.trans s2
    walk_at "go"
    refine ⟨a, _, dx, _, _, rfl, s02 _ _ e, T.cl_History, T.n_History_future, flds_future _ _, ?_⟩
    refine c_catT ht2 (same_seqT s02 h2) (by rw [List.length_map, List.length_map, List.length_drop]; omega) fun t3 H3 s3 ht3 => ?_
    rw [← List.map_append] at ht3
    walk_at "go"
    refine ⟨t1, t3, _, _, rfl, same_seqT (s2.trans s3) ht1, ht3, (fun y hy => n1 y (List.mem_of_mem_take hy)), (fun y hy => ?_), (by rw [List.length_take, List.length_append, List.length_drop]; omega), (fun r H4 s4 hR => q r H4 ((s02.trans s3).trans s4) ?_)⟩
    · rcases List.mem_append.mp hy with hy | hy
      · exact n1 y (List.mem_of_mem_drop hy)
      · exact n2 y hy
    · rw [← ek] at hR
      exact hR
def spRedo (K : PySem.W.Frag) (C : Addr) : Sp := fun vs H Q _ => ∃ (a : Addr) (x : V) (am : Option Int) (ps fs : List Str), vs = [.ref a, x] ∧ AmOf x am ∧ HistAt K C H a ps fs ∧ ∀ r H', Same H H' → HistAt K C H' r (hRedo am (ps, fs)).1 (hRedo am (ps, fs)).2 → Q (.ref r) H'
theorem ok_redo (T : TX K mg) : FnOk P w K mg base CX0 6 T.f_History_redo T.fd_History_redo pHRedo (spRedo K T.C_History) := by
  have G_check_amount := ok_check_amount (P := P) (w := w) (base := base) T
  have G_number_moved := ok_moved (P := P) (w := w) (base := base) T
  have G_history_with := ok_hwith (P := P) (w := w) (base := base) T
  refine T.F_History_redo.ok scHRedo (fun vs H Q E h => ?_) (fun cdv A outer s H vs Q E hr h => ?_)
  · obtain ⟨a, x, am, ps, fs, rfl, _⟩ := h
    rfl
  · obtain ⟨a, x, am, ps, fs, rfl, ha, ⟨⟨dx, tp, tf, e, h1, h2⟩, n1, n2, l⟩, q⟩ := h
    refine ⟨_, pss_cons (ps_expr (pcall T.d_check_amount G_check_amount (hr.mono (by decide)) (by rfl) pass0 (pa_cons (pv 1) pa_nil)))
      (pss_cons (ps_set (i := 2) scHRedo.nd rfl (.inl rfl) (pcall T.d_number_moved G_number_moved (hr.mono (by decide)) (by rfl) pass0 (pa_cons (pv 1) (pa_cons (pe_callB (callLn (K := K)) (by rfl) T.len (by decide +kernel) (pa_cons (peFld (K := K) (pv 0) rfl) pa_nil)) pa_nil))))
      (pss_one (ps_ret (pcall T.d_history_with G_history_with (hr.mono (by decide)) (by rfl) pass0 (pa_cons (pe_op (opCatT (K := K)) (peFld (K := K) (pv 0) rfl) (pe_slice (slT (K := K)) (peFld (K := K) (pv 0) rfl) po_none (po_some (pv 2)))) (pa_cons (pe_slice (slT (K := K)) (peFld (K := K) (pv 0) rfl) (po_some (pv 2)) po_none) pa_nil)))))), ?_⟩
    walk_at "go"
    refine ⟨x, am, rfl, ha, ?_⟩
    walk_at "go"
    refine ⟨a, _, dx, _, _, rfl, e, T.cl_History, T.n_History_future, flds_future _ _, ?_⟩
    walk_at "go"
    refine c_lnT h2 ?_
    walk_at "go"
    rw [List.length_map]
    refine ⟨x, am, fs.length, rfl, ha, ?_⟩
    have lm := mvd_le am fs.length
    walk_at "go"
    refine ⟨a, _, dx, _, _, rfl, e, T.cl_History, T.n_History_past, flds_past _ _, ?_⟩
    walk_at "go"
    refine ⟨a, _, dx, _, _, rfl, e, T.cl_History, T.n_History_future, flds_future _ _, ?_⟩
    walk_at "go"
    refine c_slT h2 fun t1 H1 s1 ht1 => ?_
    rw [cut_to _ _ (by rw [List.length_map]; exact lm), ← List.map_take] at ht1
    refine c_catT (same_seqT s1 h1) ht1 (by rw [List.length_map, List.length_map, List.length_take]; omega) fun t2 H2 s2 ht2 => ?_
    rw [← List.map_append] at ht2
    have s02 := s1.trans s2
    walk_at "go"
    refine ⟨a, _, dx, _, _, rfl, s02 _ _ e, T.cl_History, T.n_History_future, flds_future _ _, ?_⟩
    walk_at "go"
    refine c_slT (same_seqT s02 h2) fun t3 H3 s3 ht3 => ?_
    rw [cut_from _ _ (by rw [List.length_map]; exact lm), ← List.map_drop] at ht3
    walk_at "go"
    refine ⟨t2, t3, _, _, rfl, same_seqT s3 ht2, ht3, (fun y hy => ?_), (fun y hy => n2 y (List.mem_of_mem_drop hy)), (by rw [List.length_append, List.length_take, List.length_drop]; omega), (fun r H4 s4 hR => q r H4 ((s02.trans s3).trans s4) hR)⟩
    rcases List.mem_append.mp hy with hy | hy
    · exact n1 y hy
    · exact n2 y (List.mem_of_mem_take hy)
end
end Und
namespace Und
open PySem PySem.Spec PyProof.Rows L2
local macro_rules | `(tactic| walk_at "side") => `(tactic| first | decide | omega | exact ⟨by omega, by omega⟩ | (show (0 : Int) < _; omega) | (exact Or.inl ⟨by omega, by omega⟩) | (exact Or.inr ⟨by omega, by omega⟩) | (exact sz (by simp)) | (exact szl (by simp)))
local macro_rules | `(tactic| walk_at "u") => `(tactic| first
  | with_reducible refine c_seq ?_ | with_reducible refine c_next ?_ | with_reducible refine c_yes ?_ | with_reducible refine c_asg ?_ | with_reducible refine c_asg2 ?_ | with_reducible refine c_par ?_ | with_reducible refine c_two ?_ | with_reducible refine c_g ?_ | with_reducible refine c_gsub ?_ | with_reducible refine c_gcons ?_ | with_reducible refine c_gnil ?_ | with_reducible refine c_ret ?_ | with_reducible refine c_drop ?_
  | ((with_reducible refine c_var (v := ?v) ?h ?_); (case h => rfl)) | with_reducible refine c_c ?_ | with_reducible refine c_op ?_ | with_reducible refine c_un ?_ | with_reducible refine c_I0 ?_
  | ((with_reducible refine c_I ?h ?_); (case h => walk_at "side"))
  | ((with_reducible refine c_eq ?h ?_); (case h => rfl)) | ((with_reducible refine c_neq ?h ?_); (case h => rfl)) | with_reducible refine c_test ?_ | with_reducible refine c_B ?_ | with_reducible refine c_bl ?_ | with_reducible refine c_int ?_ | with_reducible refine c_ifs ?_ | with_reducible refine c_ife ?_
  | with_reducible refine c_andV ?_ | with_reducible refine c_orV ?_ | with_reducible refine c_notV ?_ | with_reducible refine c_and ?_ | with_reducible refine c_or ?_ | with_reducible refine c_not ?_
  | with_reducible refine c_call ?_ | with_reducible refine c_cb ?_ | with_reducible refine c_nil ?_ | with_reducible refine c_cons ?_
  | with_reducible refine c_tup ?_ | with_reducible refine c_lst ?_ | with_reducible refine c_sl ?_ | with_reducible refine c_nop ?_ | with_reducible refine c_part ?_ | with_reducible refine c_fld ?_
  | with_reducible refine c_for ?_ | with_reducible refine c_ilist ?_ | with_reducible refine c_itup ?_ | with_reducible refine c_irng1 ?_ | with_reducible refine c_lc ?_
  | with_reducible refine c_m1 ?_ | with_reducible refine c_isS ?_ | with_reducible refine c_chain ?_ | with_reducible refine c_str ?_ | with_reducible refine c_make ?_ | with_reducible refine c_meth ?_ | with_reducible refine c_prop ?_ | with_reducible refine c_sfld ?_ | with_reducible refine c_ienumT ?_ | with_reducible refine iteT ?_ | with_reducible refine iteF ?_ | with_reducible refine iteNT ?_ | with_reducible refine iteNF ?_
  | ((with_reducible refine iteDT ?h ?_); (case h => first | rfl | omega)) | ((with_reducible refine iteDF ?h ?_); (case h => first | omega | (intro z; cases z; done))) | ((with_reducible refine iteNDT ?h ?_); (case h => first | rfl | omega)) | ((with_reducible refine iteNDF ?h ?_); (case h => first | omega | (intro z; cases z; done))))
local macro_rules | `(tactic| walk_at "go") => `(tactic| repeat (walk_at "u"))
theorem noPy {b m : Int} (h0 : 0 ≤ m) (h : m < 10000000000000000000000000000000000000000000000000000000000000000000000000000000000000000000000000000) : Builtin.divisionGoesByPylong b m = false := by
  have h1 : m.natAbs < 2 ^ 400 := Nat.lt_trans (show m.natAbs < 10000000000000000000000000000000000000000000000000000000000000000000000000000000000000000000000000000 by omega) (by decide)
  exact PyProof.noPylong_of_log2 (Nat.lt_trans (PySem.Flt.log2_lt_of (by decide) h1) (by decide))
section
variable {P : Program} {w : World} {K : PySem.W.Frag} {mg : Str → Option Value} {base : Heap}
/-- some int comes of the script; nothing is changed -/
def spCell (K : PySem.W.Frag) : Sp := fun vs H Q _ => ∃ (a : Addr) (ns : List Int) (k : Int), vs = [.ref a, .int k] ∧ SqL K H a (ns.map V.int) ∧ 0 ≤ k ∧ k < 1000 ∧ ∀ (z : Int) H', Same H H' → Q (.int z) H'
theorem ok_cell {f : Addr} {fd : FuncData} (D : FD K mg "_law_cell" sCell ["_law_script", "_law_k"] f fd) (mlen : mg "len" = none) : FnOk P w K mg base CX0 1 f fd ["_law_script", "_law_k"] (spCell K) := by
  refine D.F.ok scCell (fun vs H Q E h => ?_) (fun cdv A outer s H vs Q E hr h => ?_)
  · obtain ⟨a, ns, k, rfl, _⟩ := h
    rfl
  · obtain ⟨a, ns, k, rfl, hS, h0, h1, q⟩ := h
    refine ⟨_, pss_cons (ps_if (pt_cmpR op_lt (pv 1) (pe_callB call_len_seq (by rfl) mlen PySem.boot_len (pa_cons (pv 0) pa_nil)) (nomark _)) (pss_one (ps_ret (pe_ix ix_list (pv 0) (pv 1) (fun _ _ => rfl)))) pss_nil)
      (pss_cons (ps_set (i := 2) scCell.nd rfl (.inl rfl) (pe_op op_mod (pe_op op_mul pe_int (pe_op op_add (pe_op op_add (pe_op op_mul (pv 1) (pv 1)) (pe_op op_mul pe_int (pv 1))) pe_int)) pe_int))
      (pss_cons (ps_for PassesOwn.never rfl (pi_list (pe_slice sl_list (pv 0) po_none (po_some pe_int))) (pg_name (i := 3) scCell.nd rfl (.inl rfl))
        (pss_one (ps_set (i := 2) scCell.nd rfl (.inl rfl) (pe_op op_mod (pe_op op_add (pe_op op_mul (pv 2) pe_int) (pv 3)) pe_int))))
      (pss_one (ps_ret (pv 2))))), ?_⟩
    refine ⟨_, rfl, _, rfl, a, _, rfl, .inl hS, k, _, rfl, rfl, _, rfl, ite2 (fun e => ?_) (fun e => ?_)⟩
    · have e1 := of_decide_eq_true e
      rw [List.length_map] at e1
      have hk : k.toNat < ns.length := by omega
      refine ⟨_, rfl, _, rfl, a, _, k, .int ns[k.toNat], rfl, rfl, hS, ?_, q _ _ (Same.refl H)⟩
      refine at_of (j := k.toNat) (by omega) ?_
      rw [List.getElem?_map, List.getElem?_eq_getElem hk]
      rfl
    · walk_at "go"
      refine c_slL hS fun p H1 np s1 e1 => ⟨p, rfl, ⟨_, .inl (.inl e1)⟩, ?_⟩
      obtain ⟨ms, em⟩ : ∃ ms : List Int, cutV (ns.map V.int) none (some 3) = ms.map V.int := cut_ints _ _ _
      rw [em] at e1
      refine for_list (K := K) (a := p) (xs := ms.map V.int) (fun i σ H' => ∃ (z : Int) (kv : Option V), σ = [some (.ref a), some (.int k), some (.int z), kv] ∧ 0 ≤ z ∧ z < 2147483477 ∧ Same H1 H') ⟨_, none, rfl, by omega, by omega, Same.refl _⟩ (fun i σ H' _ h => ?_) (fun i x σ H' hx h => ?_) (fun σ H' h => ?_)
      · obtain ⟨z, kv, rfl, z0, z1, s2⟩ := h
        exact .inl (.inl (s2 _ _ e1))
      · obtain ⟨z, kv, rfl, z0, z1, s2⟩ := h
        obtain ⟨y, rfl⟩ := int_at hx
        walk_at "go"
        exact ⟨_, _, rfl, by omega, by omega, s2⟩
      · obtain ⟨z, kv, rfl, z0, z1, s2⟩ := h
        walk_at "go"
        exact q z H' (s1.trans s2)
/-- a new pool -/
def spPool : Sp := fun vs H Q _ => ∃ (z : Int), vs = [.int z] ∧ ∀ p H', H p = none → Same H H' → Pool H' p → Q (.ref p) H'
theorem ok_pool {f : Addr} {fd : FuncData} (D : FD K mg "_law_pool" sPool ["_law_cell_here"] f fd) (mabs : mg "abs" = none) : FnOk P w K mg base CX0 1 f fd ["_law_cell_here"] spPool := by
  refine D.F.ok scPool (fun vs H Q E h => ?_) (fun cdv A outer s H vs Q E hr h => ?_)
  · obtain ⟨a, rfl, _⟩ := h
    rfl
  · obtain ⟨z, rfl, q⟩ := h
    refine ⟨_, pss_cons (ps_set (i := 1) scPool.nd rfl (.inl rfl) (pe_ifExp (PW.pt (pw_or (pt_cmpR op_lt (pv 0) pe_int (nomark _)) (pw_or1 (pt_cmpR op_ge (pv 0) (pe_op op_pow pe_int pe_int) (nomark _)))))
        (pe_callB call_abs (by rfl) mabs (by decide +kernel) (pa_cons (pv 0) pa_nil)) pe_int))
      (pss_one (ps_ret (pe_lst (pa_cons (pe_op op_mod (pv 0) pe_int) (pa_cons (pv 1) (pa_cons pe_int pa_nil)))))), ?_⟩
    have key : ∀ d : Int, 0 ≤ d → rNewL [.int (z % 2147483477), .int d, .int 0] H Q := fun d hd => c_newL (by simp) fun p H1 np s1 e1 => q p H1 np s1 ⟨_, _, _, e1, Int.emod_nonneg _ (by decide), Int.emod_lt_of_pos _ (by decide), hd⟩
    walk_at "go"
    refine ite2 (fun e => ?_) (fun e => ?_)
    · walk_at "go"
      refine ⟨z, rfl, ?_⟩
      walk_at "go"
      refine key _ (by split <;> omega)
    · walk_at "go"
      refine ite2 (fun e => ?_) (fun e => ?_)
      · walk_at "go"
        refine ⟨z, rfl, ?_⟩
        walk_at "go"
        refine key _ (by split <;> omega)
      · walk_at "go"
        exact key 0 (by decide)
/-- a draw below m -/
def spDraw : Sp := fun vs H Q _ => ∃ (p : Addr) (m : Int), vs = [.ref p, .int m] ∧ Pool H p ∧ 0 < m ∧ m < 10000000000000000000000000000000000000000000000000000000000000000000000000000000000000000000000000000 ∧ ∀ (r : Int) (H' : Hp), 0 ≤ r → r < m → Stp p H H' → Q (.int r) H'
theorem ok_draw {f : Addr} {fd : FuncData} (D : FD K mg "_law_draw" sDraw ["_law_pool_here", "_law_many"] f fd) (mdm : mg "divmod" = none) : FnOk P w K mg base CX0 1 f fd ["_law_pool_here", "_law_many"] spDraw := by
  refine D.F.ok scDraw (fun vs H Q E h => ?_) (fun cdv A outer s H vs Q E hr h => ?_)
  · obtain ⟨p, m, rfl, _⟩ := h
    rfl
  · obtain ⟨p, m, rfl, ⟨a, b, c, e0, a0, a1, b0⟩, m0, m1, q⟩ := h
    refine ⟨_, pss_cons (ps_asg (pe_op op_add (pe_ix ix_list (pv 0) pe_int (fun _ _ => rfl)) pe_int) (pg_sub (pv 0) pe_int set_list))
      (pss_cons (ps_set (i := 2) scDraw.nd rfl (.inl rfl) (pe_ix ix_list (pv 0) pe_int (fun _ _ => rfl)))
      (pss_cons (ps_asg (pe_op op_mod (pe_op op_add (pe_op op_add (pe_op op_mul (pv 2) (pe_op op_add (pe_op op_mod (pv 2) pe_int) pe_int)) (pe_op op_mul pe_int (pe_ix ix_list (pv 0) pe_int (fun _ _ => rfl)))) pe_int) pe_int) (pg_sub (pv 0) pe_int set_list))
      (pss_cons (ps_if (pt_cmpR op_gt (pe_ix ix_list (pv 0) pe_int (fun _ _ => rfl)) pe_int (nomark _))
        (pss_cons (ps_asg (pe_callB call_divmodW (by rfl) mdm (by decide +kernel) (pa_cons (pe_ix ix_list (pv 0) pe_int (fun _ _ => rfl)) (pa_cons (pv 1) pa_nil))) (pg_tup (by rfl) (pgs_cons (pg_sub (pv 0) pe_int set_list) (pgs_cons (pg_name (i := 3) scDraw.nd rfl (.inl rfl)) pgs_nil))))
        (pss_one (ps_ret (pv 3)))) pss_nil)
      (pss_one (ps_ret (pe_op op_mod (pe_op op_fdiv (pe_ix ix_list (pv 0) pe_int (fun _ _ => rfl)) pe_int) (pv 1))))))), ?_⟩
    walk_at "go"
    refine c_ixL (.inl (.inl e0)) 2 rfl rfl ?_
    walk_at "go"
    refine c_setL e0 2 rfl ?_
    walk_at "go"
    refine c_ixL (.inl (.inl upd_same)) 0 rfl rfl ?_
    walk_at "go"
    refine c_ixL (.inl (.inl upd_same)) 2 rfl rfl ?_
    walk_at "go"
    refine c_setL upd_same 0 rfl ?_
    rw [upd_upd]
    obtain ⟨c', hc⟩ : ∃ c', c + 1 = c' := ⟨_, rfl⟩
    obtain ⟨a', ha, ha0, ha1⟩ : ∃ a', (a * (a % 41017 + 27011) + 50021 * c' + 13) % 2147483477 = a' ∧ 0 ≤ a' ∧ a' < 2147483477 := ⟨_, rfl, Int.emod_nonneg _ (by decide), Int.emod_lt_of_pos _ (by decide)⟩
    simp only [hc, List.set]
    simp only [ha]
    walk_at "go"
    refine c_ixL (.inl (.inl upd_same)) 1 rfl rfl ?_
    walk_at "go"
    refine ite2 (fun e => ?_) (fun e => ?_)
    · walk_at "go"
      refine c_ixL (.inl (.inl upd_same)) 1 rfl rfl ?_
      walk_at "go"
      refine ⟨_, _, rfl, ⟨m0, noPy (by omega) m1⟩, fun t nt => ?_⟩
      have np : p ≠ t := ne_of_none upd_same nt
      walk_at "go"
      refine c_gtup (.inl (.inl upd_same)) rfl ?_
      walk_at "go"
      refine c_setL ((upd_ne np).trans upd_same) 1 rfl ?_
      walk_at "go"
      refine q _ _ (Int.emod_nonneg _ (by omega)) (Int.emod_lt_of_pos _ m0) ⟨?_, ⟨_, _, _, upd_same, ha0, ha1, Int.ediv_nonneg b0 (by omega)⟩⟩
      refine (hid_upd.trans (hid_mono (same_new nt))).trans hid_upd
    · walk_at "go"
      refine c_ixL (.inl (.inl upd_same)) 0 rfl rfl ?_
      walk_at "go"
      refine q _ _ (Int.emod_nonneg _ (by omega)) (Int.emod_lt_of_pos _ m0) ⟨hid_upd, ⟨_, _, _, upd_same, ha0, ha1, b0⟩⟩
end
end Und
namespace Und
open PySem PySem.Spec PyProof.Rows L2
local macro_rules | `(tactic| walk_at "side") => `(tactic| first | decide | omega | exact ⟨by omega, by omega⟩ | (show (0 : Int) < _; omega) | (exact Or.inl ⟨by omega, by omega⟩) | (exact Or.inr ⟨by omega, by omega⟩) | (exact sz (by simp)) | (exact szl (by simp)))
local macro_rules | `(tactic| walk_at "u") => `(tactic| first
  | with_reducible refine c_seq ?_ | with_reducible refine c_next ?_ | with_reducible refine c_yes ?_ | with_reducible refine c_asg ?_ | with_reducible refine c_asg2 ?_ | with_reducible refine c_par ?_ | with_reducible refine c_two ?_ | with_reducible refine c_g ?_ | with_reducible refine c_gsub ?_ | with_reducible refine c_gcons ?_ | with_reducible refine c_gnil ?_ | with_reducible refine c_ret ?_ | with_reducible refine c_drop ?_
  | ((with_reducible refine c_var (v := ?v) ?h ?_); (case h => rfl)) | with_reducible refine c_c ?_ | with_reducible refine c_op ?_ | with_reducible refine c_un ?_ | with_reducible refine c_I0 ?_
  | ((with_reducible refine c_I ?h ?_); (case h => walk_at "side"))
  | ((with_reducible refine c_eq ?h ?_); (case h => rfl)) | ((with_reducible refine c_neq ?h ?_); (case h => rfl)) | with_reducible refine c_test ?_ | with_reducible refine c_B ?_ | with_reducible refine c_bl ?_ | with_reducible refine c_int ?_ | with_reducible refine c_ifs ?_ | with_reducible refine c_ife ?_
  | with_reducible refine c_andV ?_ | with_reducible refine c_orV ?_ | with_reducible refine c_notV ?_ | with_reducible refine c_and ?_ | with_reducible refine c_or ?_ | with_reducible refine c_not ?_
  | with_reducible refine c_call ?_ | with_reducible refine c_cb ?_ | with_reducible refine c_nil ?_ | with_reducible refine c_cons ?_
  | with_reducible refine c_tup ?_ | with_reducible refine c_lst ?_ | with_reducible refine c_sl ?_ | with_reducible refine c_nop ?_ | with_reducible refine c_part ?_ | with_reducible refine c_fld ?_
  | with_reducible refine c_for ?_ | with_reducible refine c_ilist ?_ | with_reducible refine c_itup ?_ | with_reducible refine c_irng1 ?_ | with_reducible refine c_lc ?_
  | with_reducible refine c_m1 ?_ | with_reducible refine c_isS ?_ | with_reducible refine c_chain ?_ | with_reducible refine c_str ?_ | with_reducible refine c_make ?_ | with_reducible refine c_meth ?_ | with_reducible refine c_prop ?_ | with_reducible refine c_sfld ?_ | with_reducible refine c_ienumT ?_ | with_reducible refine iteT ?_ | with_reducible refine iteF ?_ | with_reducible refine iteNT ?_ | with_reducible refine iteNF ?_
  | ((with_reducible refine iteDT ?h ?_); (case h => first | rfl | omega)) | ((with_reducible refine iteDF ?h ?_); (case h => first | omega | (intro z; cases z; done))) | ((with_reducible refine iteNDT ?h ?_); (case h => first | rfl | omega)) | ((with_reducible refine iteNDF ?h ?_); (case h => first | omega | (intro z; cases z; done))))
local macro_rules | `(tactic| walk_at "go") => `(tactic| repeat (walk_at "u"))
section
variable {P : Program} {w : World} {K : PySem.W.Frag} {mg : Str → Option Value} {base : Heap}
theorem c_draw {H : Hp} {Q : VK} {E : XK} {p : Addr} {m : Int} (pool : Pool H p) (m0 : 0 < m) (m1 : m < 10000000000000000000000000000000000000000000000000000000000000000000000000000000000000000000000000000) (h : ∀ (r : Int) (H' : Hp), 0 ≤ r → r < m → Stp p H H' → Q (.int r) H') : spDraw ([.ref p, .int m] ++ []) H Q E := ⟨p, m, rfl, pool, m0, m1, h⟩
theorem mod_at {α : Type} (xs : List α) (z : Int) (h : 0 < xs.length) : ∃ (j : Nat) (x : α), j < xs.length ∧ z % (xs.length : Int) = (j : Int) ∧ xs[j]? = some x ∧ x ∈ xs := by
  have h1 : 0 ≤ z % (xs.length : Int) := Int.emod_nonneg z (by omega)
  have h2 : z % (xs.length : Int) < (xs.length : Int) := Int.emod_lt_of_pos z (by omega)
  have hj : (z % (xs.length : Int)).toNat < xs.length := by omega
  exact ⟨_, xs[(z % (xs.length : Int)).toNat], hj, by omega, List.getElem?_eq_getElem hj, List.getElem_mem hj⟩
def ownNames : List Str := ["do", "undo", "redo", "all", "times", "keep", "old", "item", "save", "nothing", "none", "always"]
theorem ownNames_ok : ∀ z ∈ ownNames, IsName z := fun z hz => name_of (List.all_eq_true.mp (show ownNames.all nameB = true by decide +kernel) z hz)
def letters : List Nat := (Str.ofString "abcdefghijklmnopqrstuvwxyz").cps.toList
theorem letters_ok (c : Nat) (hc : c ∈ letters) : 97 ≤ c ∧ c ≤ 122 := by
  have := List.all_eq_true.mp (show (letters.all fun c => decide (97 ≤ c) && decide (c ≤ 122)) = true by decide +kernel) c hc
  simpa using this
theorem letter_at {k n : Int} (h0 : 0 ≤ k) (h1 : k < 26) : ∃ (j : Nat) (c : Nat), k = (j : Int) ∧ letters[j]? = some c ∧ 97 ≤ c ∧ c ≤ 122 := by
  have hl : letters.length = 26 := by decide +kernel
  have hj : k.toNat < letters.length := by omega
  exact ⟨k.toNat, letters[k.toNat], by omega, List.getElem?_eq_getElem hj, letters_ok _ (List.getElem_mem hj)⟩
/-- a new list of so many names -/
def spCalls : Sp := fun vs H Q _ => ∃ (p : Addr) (m : Int), vs = [.ref p, .int m] ∧ Pool H p ∧ 0 ≤ m ∧ m ≤ 1000 ∧
  ∀ (D : Addr) (ns : List Str) (H' : Hp), H D = none → Stp p H H' → H' D = some (.lst (ns.map V.str)) → (ns.length : Int) = m → (∀ z ∈ ns, IsName z) → Q (.ref D) H'
theorem ok_calls (T : TX K mg) : FnOk P w K mg base CX0 2 T.f_law_calls T.fd_law_calls pCalls spCalls := by
  have G_law_draw : FnOk P w K mg base CX0 1 T.f_law_draw T.fd_law_draw ["_law_pool_here", "_law_many"] spDraw := ok_draw T.d_law_draw T.divmod
  refine T.d_law_calls.F.ok scCalls (fun vs H Q E h => ?_) (fun cdv A outer s H vs Q E hr h => ?_)
  · obtain ⟨p, m, rfl, _⟩ := h
    rfl
  · obtain ⟨p, m, rfl, pool, m0, m1, q⟩ := h
    refine ⟨_, pss_cons (ps_set (i := 2) scCalls.nd rfl (.inr rfl) (pe_lst (pa_cons (pe_str) (pa_cons (pe_str) (pa_cons (pe_str) (pa_cons (pe_str) (pa_cons (pe_str) (pa_cons (pe_str) (pa_cons (pe_str) (pa_cons (pe_str) (pa_cons (pe_str) (pa_cons (pe_str) (pa_cons (pe_str) (pa_cons (pe_str) pa_nil))))))))))))))
      (pss_cons (ps_asg (pe_tup (pa_cons (pcall T.d_law_draw G_law_draw (hr.mono (by decide)) (by rfl) pass0 (pa_cons (pv 0) (pa_cons (pe_int) pa_nil))) (pa_cons (pcall T.d_law_draw G_law_draw (hr.mono (by decide)) (by rfl) pass0 (pa_cons (pv 0) (pa_cons (pe_int) pa_nil))) pa_nil))) (pgTup (K := K) (n := 2) (by rfl) (pgs_cons (pg_name (i := 3) scCalls.nd rfl (.inr rfl)) (pgs_cons (pg_name (i := 4) scCalls.nd rfl (.inl rfl)) pgs_nil))))
      (pss_cons (ps_if (pt_cmpR op_eq (pv 4) (pe_int) (nomark _)) (pss_one (ps_ret (pe_lc (own := [("_law_k", 8)]) (g := gName 8) (tt := tYes) (by rfl) scCalls.nd (pi_range1 (by rfl) T.range (pa_cons (pv 1) pa_nil)) (blkOk_by (own := [("_law_k", 8)]) (N := nCalls) (sc := defScope sCalls) (by decide +kernel)) (fun _ _ _ _ _ => pg_name (i := 8) scCalls.nd rfl (.inl rfl)) (fun _ _ _ _ _ => pts_nil) (fun _ _ _ _ _ => pe_ix (ixL (K := K)) (pv 2) (pe_op op_mod (pe_op op_add (pv 3) (pe_op op_mul (pe_int) (pv 8))) (pe_int)) (fun _ _ => rfl))))) (pss_nil))
      (pss_cons (ps_set (i := 5) scCalls.nd rfl (.inr rfl) (pe_str))
      (pss_cons (ps_if (pt_cmpR op_eq (pv 4) (pe_int) (nomark _)) (pss_one (ps_ret (pe_lc (own := [("_law_k", 8)]) (g := gName 8) (tt := tYes) (by rfl) scCalls.nd (pi_range1 (by rfl) T.range (pa_cons (pv 1) pa_nil)) (blkOk_by (own := [("_law_k", 8)]) (N := nCalls) (sc := defScope sCalls) (by decide +kernel)) (fun _ _ _ _ _ => pg_name (i := 8) scCalls.nd rfl (.inl rfl)) (fun _ _ _ _ _ => pts_nil) (fun _ _ _ _ _ => pe_op op_mulS (pe_ix ix_str (pv 5) (pe_op op_mod (pe_op op_add (pv 3) (pe_op op_mul (pe_int) (pv 8))) (pe_int)) (fun _ _ => rfl)) (pe_op op_add (pe_int) (pe_op op_mod (pv 8) (pe_int))))))) (pss_nil))
      (pss_cons (ps_if (pt_cmpR op_eq (pv 4) (pe_int) (nomark _)) (pss_one (ps_ret (pe_lc (own := [("_law_k", 8)]) (g := gName 8) (tt := tYes) (by rfl) scCalls.nd (pi_range1 (by rfl) T.range (pa_cons (pv 1) pa_nil)) (blkOk_by (own := [("_law_k", 8)]) (N := nCalls) (sc := defScope sCalls) (by decide +kernel)) (fun _ _ _ _ _ => pg_name (i := 8) scCalls.nd rfl (.inl rfl)) (fun _ _ _ _ _ => pts_nil) (fun _ _ _ _ _ => pe_ix (ixL (K := K)) (pe_lst (pa_cons (pe_str) (pa_cons (pe_str) pa_nil))) (pcall T.d_law_draw G_law_draw (hr.mono (by decide)) (by rfl) pass0 (pa_cons (pv 0) (pa_cons (pe_int) pa_nil))) (fun _ _ => rfl))))) (pss_nil))
      (pss_cons (ps_set (i := 6) scCalls.nd rfl (.inr rfl) (peJoin (K := K) (pe_str) (pe_lc (own := [("_law_k", 8)]) (g := gName 8) (tt := tYes) (by rfl) scCalls.nd (pi_range1 (by rfl) T.range (pa_cons (pcall T.d_law_draw G_law_draw (hr.mono (by decide)) (by rfl) pass0 (pa_cons (pv 0) (pa_cons (pe_int) pa_nil))) pa_nil)) (blkOk_by (own := [("_law_k", 8)]) (N := nCalls) (sc := defScope sCalls) (by decide +kernel)) (fun _ _ _ _ _ => pg_name (i := 8) scCalls.nd rfl (.inl rfl)) (fun _ _ _ _ _ => pts_nil) (fun _ _ _ _ _ => pe_ix ix_str (pv 5) (pcall T.d_law_draw G_law_draw (hr.mono (by decide)) (by rfl) pass0 (pa_cons (pv 0) (pa_cons (pe_int) pa_nil))) (fun _ _ => rfl)))))
      (pss_cons (ps_set (i := 7) scCalls.nd rfl (.inr rfl) (pcall T.d_law_draw G_law_draw (hr.mono (by decide)) (by rfl) pass0 (pa_cons (pv 0) (pa_cons (pe_op op_add (pe_callB callLnS (by rfl) T.len (by decide +kernel) (pa_cons (pv 6) pa_nil)) (pe_int)) pa_nil))))
      (pss_one (ps_ret (pe_lc (own := [("_law_k", 8)]) (g := gName 8) (tt := tYes) (by rfl) scCalls.nd (pi_range1 (by rfl) T.range (pa_cons (pv 1) pa_nil)) (blkOk_by (own := [("_law_k", 8)]) (N := nCalls) (sc := defScope sCalls) (by decide +kernel)) (fun _ _ _ _ _ => pg_name (i := 8) scCalls.nd rfl (.inl rfl)) (fun _ _ _ _ _ => pts_nil) (fun _ _ _ _ _ => pe_op opAddS (pe_op opAddS (pe_slice sl_str (pv 6) po_none (po_some (pv 7))) (pe_ix ix_str (pv 5) (pe_op op_mod (pe_op op_add (pv 3) (pe_op op_mul (pe_int) (pv 8))) (pe_int)) (fun _ _ => rfl))) (pe_slice sl_str (pv 6) (po_some (pv 7)) po_none)))))))))))), ?_⟩
    have np : ∀ {H' : Hp}, Stp p H H' → ∀ x, H' x = none → H x = none := fun st x nx => by
      cases hx : H x with
      | none => rfl
      | some o =>
        by_cases e : x = p
        · obtain ⟨a, b, c, e2, _⟩ := st.q
          rw [e, e2] at nx
          cases nx
        · rw [st.at hx (Ne.symm e)] at nx
          cases nx
    walk_at "go"
    refine c_newL (by simp) fun o H1 no s1 e1 => ?_
    have st1 : Stp p H H1 := .of pool s1
    have po : p ≠ o := pool.ne no
    walk_at "go"
    refine c_draw st1.q (by decide) (by decide) fun b H2 b0 b1 st2 => ?_
    walk_at "go"
    refine c_draw st2.q (by decide) (by decide) fun md H3 md0 md1 st3 => ?_
    walk_at "go"
    refine c_newT (by simp) fun t H4 nt s4 e4 => c_gtup (.inl (.inl e4)) rfl ?_
    have st4 : Stp p H3 H4 := .of st3.q s4
    walk_at "go"
    have st14 : Stp p H1 H4 := (st2.trans st3).trans st4
    have st04 : Stp p H H4 := st1.trans st14
    have eo4 : H4 o = _ := st14.at e1 po
    refine ite2 (fun _ => ?_) (fun _ => ?_)
    · walk_at "go"
      refine ⟨m, rfl, by omega, by omega, fun D nD => ?_⟩
      refine lc_rg (fun _ v => ∃ z, v = .str z ∧ IsName z) nD (by omega) (fun _ => rfl) (fun i H5 Q' hi s5 k => ?_) (fun H5 xs s5 e5 l r => ?_)
      · obtain ⟨j, z, hj, ej, ez, hz⟩ := mod_at ownNames (b + 5 * (i : Int)) (by decide)
        have ez' : (ownNames.map V.str)[j]? = some (.str z) := by rw [List.getElem?_map, ez]; rfl
        walk_at "go"
        refine c_ixL (.inl (.inl (s5 _ _ eo4))) j ej ez' ?_
        exact k _ _ (Same.refl _) ⟨z, rfl, ownNames_ok _ hz⟩
      · obtain ⟨ns, rfl, hn⟩ := strs_of fun i y e => r i y e
        rw [List.length_map] at l
        exact q D ns H5 (np st04 _ nD) (st04.trans (.of st4.q s5)) e5 (by omega) hn
    walk_at "go"
    refine ite2 (fun _ => ?_) (fun _ => ?_)
    · walk_at "go"
      refine ⟨m, rfl, by omega, by omega, fun D nD => ?_⟩
      refine lc_rg (fun _ v => ∃ z, v = .str z ∧ IsName z) nD (by omega) (fun _ => rfl) (fun i H5 Q' hi s5 k => ?_) (fun H5 xs s5 e5 l r => ?_)
      · obtain ⟨j, c, hj, ej, ec, hc⟩ := mod_at letters (b + 7 * (i : Int)) (by decide)
        walk_at "go"
        refine c_ixS (by decide +kernel) j ej ec ?_
        walk_at "go"
        obtain ⟨n, en, n1, n8⟩ : ∃ n : Nat, 1 + (i : Int) % 8 = (n : Int) ∧ 1 ≤ n ∧ n ≤ 8 := ⟨(1 + (i : Int) % 8).toNat, by omega, by omega, by omega⟩
        rw [en]
        refine c_mulS (mul_ok c n (by omega)) ?_
        exact k _ _ (Same.refl _) ⟨_, rfl, rep_name (letters_ok c hc) n1 n8⟩
      · obtain ⟨ns, rfl, hn⟩ := strs_of fun i y e => r i y e
        rw [List.length_map] at l
        exact q D ns H5 (np st04 _ nD) (st04.trans (.of st4.q s5)) e5 (by omega) hn
    walk_at "go"
    refine ite2 (fun _ => ?_) (fun _ => ?_)
    · walk_at "go"
      refine ⟨m, rfl, by omega, by omega, fun D nD => ?_⟩
      refine lc_rgP (fun _ v => ∃ z, v = .str z ∧ IsName z) st4.q nD (by omega) (fun _ => rfl) (fun i H5 Q' hi s5 k => ?_) (fun H5 xs s5 e5 l r => ?_)
      · walk_at "go"
        refine c_newL (by simp) fun u H6 nu s6 e6 => ?_
        walk_at "go"
        have st6 : Stp p H5 H6 := .of s5.q s6
        refine c_draw st6.q (by decide) (by decide) fun d H7 d0 d1 st7 => ?_
        have e7 : H7 u = _ := st7.at e6 (s5.q.ne nu)
        have hd : d = 0 ∨ d = 1 := by omega
        rcases hd with rfl | rfl
        · refine c_ixL (.inl (.inl e7)) 0 rfl rfl ?_
          exact k _ _ (st6.trans st7) ⟨_, rfl, name_of (by decide +kernel)⟩
        · refine c_ixL (.inl (.inl e7)) 1 rfl rfl ?_
          exact k _ _ (st6.trans st7) ⟨_, rfl, name_of (by decide +kernel)⟩
      · obtain ⟨ns, rfl, hn⟩ := strs_of fun i y e => r i y e
        rw [List.length_map] at l
        exact q D ns H5 (np st04 _ nD) (st04.trans s5) e5 (by omega) hn
    walk_at "go"
    refine c_draw st4.q (by decide) (by decide) fun d H5 d0 d1 st5 => ?_
    walk_at "go"
    refine ⟨d, rfl, by omega, by omega, fun D nD => ?_⟩
    refine lc_rgP (fun _ v => ∃ z, v = .str z ∧ ∃ c, z = ⟨#[c]⟩ ∧ 97 ≤ c ∧ c ≤ 122) st5.q nD (by omega) (fun _ => rfl) (fun i H6 Q' hi s6 k => ?_) (fun H6 xs st6 e6 l r => ?_)
    · walk_at "go"
      refine c_draw s6.q (by decide) (by decide) fun d H7 d0 d1 st7 => ?_
      obtain ⟨j, c, ej, ec, hc⟩ := letter_at (n := 0) d0 d1
      refine c_ixS (by decide +kernel) j ej ec ?_
      exact k _ _ st7 ⟨_, rfl, c, rfl, hc⟩
    obtain ⟨ns, rfl, hn⟩ := strs_of fun i y e => r i y e
    rw [List.length_map] at l
    obtain ⟨jl, jlow⟩ := join_ones hn
    refine c_joinL (.inl (.inl e6)) ?_ ?_
    · rw [sum_ones hn, show (Str.ofString "").length = 0 from rfl]
      omega
    obtain ⟨stem, estem⟩ : ∃ stem, Txt.join (Str.ofString "") ns = stem := ⟨_, rfl⟩
    rw [show Txt.join Str.empty ns = stem from estem] at jl jlow
    rw [estem]
    have hstem : stem.length ≤ 7 := by omega
    walk_at "go"
    refine c_lnS (by omega) ?_
    walk_at "go"
    refine c_draw st6.q (by omega) (by omega) fun ct H7 c0 c1 st7 => ?_
    walk_at "go"
    have st47 : Stp p H4 H7 := (st5.trans st6).trans st7
    refine ⟨m, rfl, by omega, by omega, fun D nD => ?_⟩
    refine lc_rg (fun _ v => ∃ z, v = .str z ∧ IsName z) nD (by omega) (fun _ => rfl) (fun i H8 Q' hi s8 k => ?_) (fun H8 xs s8 e8 l r => ?_)
    · obtain ⟨j, c, hj, ej, ec, hc⟩ := mod_at letters (b + 5 * (i : Int)) (by decide)
      have hc := letters_ok c hc
      obtain ⟨cn, rfl⟩ : ∃ cn : Nat, ct = (cn : Int) := ⟨ct.toNat, by omega⟩
      obtain ⟨l1, l2⟩ := cut_len stem cn (by omega)
      walk_at "go"
      refine c_slS (by omega) ?_
      walk_at "go"
      refine c_ixS (by decide +kernel) j ej ec ?_
      have l3 : (⟨#[c]⟩ : Str).length = 1 := rfl
      refine c_addS (by omega) ?_
      walk_at "go"
      refine c_slS (by omega) ?_
      have l4 : (cutS stem none (some (cn : Int)) ++ ⟨#[c]⟩ : Str).length = cn + 1 := by rw [PySem.Str.length_append]; omega
      refine c_addS (by omega) ?_
      refine k _ _ (Same.refl _) ⟨_, rfl, ⟨?_, ?_, low_app (low_app (low_cut jlow) (low_one hc)) (low_cut jlow)⟩⟩
      · rw [PySem.Str.length_append]; omega
      · rw [PySem.Str.length_append]; omega
    · obtain ⟨ns, rfl, hn⟩ := strs_of fun i y e => r i y e
      rw [List.length_map] at l
      exact q D ns H8 (np (st04.trans st47) _ nD) ((st04.trans st47).trans (.of st47.q s8)) e8 (by omega) hn
end
end Und
namespace Und
open PySem PySem.Spec PyProof.Rows L2
local macro_rules | `(tactic| walk_at "side") => `(tactic| first | decide | omega | exact ⟨by omega, by omega⟩ | (show (0 : Int) < _; omega) | (exact Or.inl ⟨by omega, by omega⟩) | (exact Or.inr ⟨by omega, by omega⟩) | (exact sz (by simp)) | (exact szl (by simp)))
local macro_rules | `(tactic| walk_at "u") => `(tactic| first
  | with_reducible refine c_seq ?_ | with_reducible refine c_next ?_ | with_reducible refine c_yes ?_ | with_reducible refine c_asg ?_ | with_reducible refine c_asg2 ?_ | with_reducible refine c_par ?_ | with_reducible refine c_two ?_ | with_reducible refine c_g ?_ | with_reducible refine c_gsub ?_ | with_reducible refine c_gcons ?_ | with_reducible refine c_gnil ?_ | with_reducible refine c_ret ?_ | with_reducible refine c_drop ?_
  | ((with_reducible refine c_var (v := ?v) ?h ?_); (case h => rfl)) | with_reducible refine c_c ?_ | with_reducible refine c_op ?_ | with_reducible refine c_un ?_ | with_reducible refine c_I0 ?_
  | ((with_reducible refine c_I ?h ?_); (case h => walk_at "side"))
  | ((with_reducible refine c_eq ?h ?_); (case h => rfl)) | ((with_reducible refine c_neq ?h ?_); (case h => rfl)) | with_reducible refine c_test ?_ | with_reducible refine c_B ?_ | with_reducible refine c_bl ?_ | with_reducible refine c_int ?_ | with_reducible refine c_ifs ?_ | with_reducible refine c_ife ?_
  | with_reducible refine c_andV ?_ | with_reducible refine c_orV ?_ | with_reducible refine c_notV ?_ | with_reducible refine c_and ?_ | with_reducible refine c_or ?_ | with_reducible refine c_not ?_
  | with_reducible refine c_call ?_ | with_reducible refine c_cb ?_ | with_reducible refine c_nil ?_ | with_reducible refine c_cons ?_
  | with_reducible refine c_tup ?_ | with_reducible refine c_lst ?_ | with_reducible refine c_sl ?_ | with_reducible refine c_nop ?_ | with_reducible refine c_part ?_ | with_reducible refine c_fld ?_
  | with_reducible refine c_for ?_ | with_reducible refine c_ilist ?_ | with_reducible refine c_itup ?_ | with_reducible refine c_irng1 ?_ | with_reducible refine c_lc ?_
  | with_reducible refine c_m1 ?_ | with_reducible refine c_isS ?_ | with_reducible refine c_chain ?_ | with_reducible refine c_str ?_ | with_reducible refine c_make ?_ | with_reducible refine c_meth ?_ | with_reducible refine c_prop ?_ | with_reducible refine c_sfld ?_ | with_reducible refine c_ienumT ?_ | with_reducible refine iteT ?_ | with_reducible refine iteF ?_ | with_reducible refine iteNT ?_ | with_reducible refine iteNF ?_
  | ((with_reducible refine iteDT ?h ?_); (case h => first | rfl | omega)) | ((with_reducible refine iteDF ?h ?_); (case h => first | omega | (intro z; cases z; done))) | ((with_reducible refine iteNDT ?h ?_); (case h => first | rfl | omega)) | ((with_reducible refine iteNDF ?h ?_); (case h => first | omega | (intro z; cases z; done))))
local macro_rules | `(tactic| walk_at "go") => `(tactic| repeat (walk_at "u"))
/-! ### the mathematics of undo and redo -/
theorem undo_line (am : Option Int) (ps fs : List Str) : (hUndo am (ps, fs)).1 ++ (hUndo am (ps, fs)).2 = ps ++ fs := by
  show ps.take _ ++ (ps.drop _ ++ fs) = _
  rw [← List.append_assoc, List.take_append_drop]
theorem redo_line (am : Option Int) (ps fs : List Str) : (hRedo am (ps, fs)).1 ++ (hRedo am (ps, fs)).2 = ps ++ fs := by
  show (ps ++ fs.take _) ++ fs.drop _ = _
  rw [List.append_assoc, List.take_append_drop]
theorem undo_one (am : Option Int) (ps fs : List Str) : (hUndo am (ps, fs)).1 = ps.take (ps.length - mvd am ps.length) := rfl
theorem redo_one (am : Option Int) (ps fs : List Str) : (hRedo am (ps, fs)).1 = ps ++ fs.take (mvd am fs.length) := rfl
/-- the same line parted at the same place -/
theorem part_eq {a b c d : List Str} (h : a ++ b = c ++ d) (l : a.length = c.length) : a = c ∧ b = d := List.append_inj h l
theorem undo_len (am : Option Int) (ps fs : List Str) : (hUndo am (ps, fs)).1.length = ps.length - mvd am ps.length := by
  rw [undo_one, List.length_take]
  omega
theorem redo_len (am : Option Int) (ps fs : List Str) : (hRedo am (ps, fs)).1.length = ps.length + mvd am fs.length := by
  have := mvd_le am fs.length
  rw [redo_one, List.length_append, List.length_take]
  omega
theorem undo_flen (am : Option Int) (ps fs : List Str) : (hUndo am (ps, fs)).2.length = fs.length + mvd am ps.length := by
  have h := congrArg List.length (undo_line am ps fs)
  have l := undo_len am ps fs
  have := mvd_le am ps.length
  rw [List.length_append, List.length_append] at h
  omega
theorem redo_flen (am : Option Int) (ps fs : List Str) : (hRedo am (ps, fs)).2.length = fs.length - mvd am fs.length := by
  have h := congrArg List.length (redo_line am ps fs)
  have l := redo_len am ps fs
  have := mvd_le am fs.length
  rw [List.length_append, List.length_append] at h
  omega
theorem mvd_some (i : Int) (n : Nat) : mvd (some i) n = min i.toNat n := rfl
theorem undo_undo (i j : Int) (hi : 1 ≤ i) (hj : 1 ≤ j) (h : List Str × List Str) : hUndo (some j) (hUndo (some i) h) = hUndo (some (i + j)) h := by
  obtain ⟨ps, fs⟩ := h
  obtain ⟨a, b, e⟩ : ∃ a b, hUndo (some i) (ps, fs) = (a, b) := ⟨_, _, rfl⟩
  have l1 := undo_line (some i) ps fs
  have n1 := undo_len (some i) ps fs
  rw [e] at l1 n1 ⊢
  have l2 := undo_line (some j) a b
  have n2 := undo_len (some j) a b
  have l3 := undo_line (some (i + j)) ps fs
  have n3 := undo_len (some (i + j)) ps fs
  have := part_eq (l2.trans (l1.trans l3.symm)) (by simp only [mvd_some] at *; omega)
  exact Prod.ext this.1 this.2
theorem redo_redo (i j : Int) (hi : 1 ≤ i) (hj : 1 ≤ j) (h : List Str × List Str) : hRedo (some j) (hRedo (some i) h) = hRedo (some (i + j)) h := by
  obtain ⟨ps, fs⟩ := h
  obtain ⟨a, b, e⟩ : ∃ a b, hRedo (some i) (ps, fs) = (a, b) := ⟨_, _, rfl⟩
  have l1 := redo_line (some i) ps fs
  have n1 := redo_len (some i) ps fs
  have m1 := redo_flen (some i) ps fs
  rw [e] at l1 n1 m1 ⊢
  have l2 := redo_line (some j) a b
  have n2 := redo_len (some j) a b
  have l3 := redo_line (some (i + j)) ps fs
  have n3 := redo_len (some (i + j)) ps fs
  have := part_eq (l2.trans (l1.trans l3.symm)) (by simp only [mvd_some] at *; omega)
  exact Prod.ext this.1 this.2
theorem undo_redo (i : Int) (hi : 1 ≤ i) (ps fs : List Str) : decide ((hRedo (some i) (hUndo (some i) (ps, fs))).1 = ps ∧ (hRedo (some i) (hUndo (some i) (ps, fs))).2 = fs) = (decide (i ≤ (ps.length : Int)) || decide (fs = [])) := by
  obtain ⟨a, b, e⟩ : ∃ a b, hUndo (some i) (ps, fs) = (a, b) := ⟨_, _, rfl⟩
  have l1 := undo_line (some i) ps fs
  have n1 := undo_len (some i) ps fs
  have m1 := undo_flen (some i) ps fs
  rw [e] at l1 n1 m1 ⊢
  have l2 := redo_line (some i) a b
  have n2 := redo_len (some i) a b
  simp only [mvd_some] at *
  by_cases h : i ≤ (ps.length : Int) ∨ fs = []
  · have hl : (hRedo (some i) (a, b)).1.length = ps.length := by
      rcases h with h | h
      · omega
      · rw [h] at m1
        simp only [List.length_nil] at m1
        omega
    have := part_eq (l2.trans l1) hl
    rw [decide_eq_true this]
    rcases h with h | h
    · rw [decide_eq_true h]
      rfl
    · rw [decide_eq_true h, Bool.or_true]
  · have h1 : ¬ i ≤ (ps.length : Int) := fun z => h (.inl z)
    have h2 : ¬ fs = [] := fun z => h (.inr z)
    have hf : 0 < fs.length := List.length_pos_iff.mpr h2
    rw [decide_eq_false h1, decide_eq_false h2]
    refine decide_eq_false fun z => ?_
    have := congrArg List.length z.1
    omega
theorem redo_undo (i : Int) (hi : 1 ≤ i) (ps fs : List Str) : decide ((hUndo (some i) (hRedo (some i) (ps, fs))).1 = ps ∧ (hUndo (some i) (hRedo (some i) (ps, fs))).2 = fs) = (decide (i ≤ (fs.length : Int)) || decide (ps = [])) := by
  obtain ⟨a, b, e⟩ : ∃ a b, hRedo (some i) (ps, fs) = (a, b) := ⟨_, _, rfl⟩
  have l1 := redo_line (some i) ps fs
  have n1 := redo_len (some i) ps fs
  rw [e] at l1 n1 ⊢
  have l2 := undo_line (some i) a b
  have n2 := undo_len (some i) a b
  simp only [mvd_some] at *
  by_cases h : i ≤ (fs.length : Int) ∨ ps = []
  · have hl : (hUndo (some i) (a, b)).1.length = ps.length := by
      rcases h with h | h
      · omega
      · rw [h] at n1 ⊢
        simp only [List.length_nil] at n1 ⊢
        omega
    have := part_eq (l2.trans l1) hl
    rw [decide_eq_true this]
    rcases h with h | h
    · rw [decide_eq_true h]
      rfl
    · rw [decide_eq_true h, Bool.or_true]
  · have h1 : ¬ i ≤ (fs.length : Int) := fun z => h (.inl z)
    have h2 : ¬ ps = [] := fun z => h (.inr z)
    have hf : 0 < ps.length := List.length_pos_iff.mpr h2
    rw [decide_eq_false h1, decide_eq_false h2]
    refine decide_eq_false fun z => ?_
    have := congrArg List.length z.1
    omega
section
variable {K : PySem.W.Frag} {C a : Addr} {H : Hp} {ps fs : List Str} {Q : VK} {R : Prop} {sp : Sp} {dvs : List V} {E : XK}
theorem recvH (h : HistAt K C H a ps fs) {m : Str} (h1 : ¬ m = "past") (h2 : ¬ m = "future") (q : R) : ∃ a' dx fs', V.ref a = .ref a' ∧ H a' = some (.ins C dx fs') ∧ fs'.lookup m = none ∧ R := by
  obtain ⟨⟨dx, tp, tf, e, _⟩, _⟩ := h
  exact ⟨a, dx, _, rfl, e, flds_no _ _ h1 h2, q⟩
theorem recvP (h : HistAt K C H a ps fs) (q : sp (.ref a :: dvs) H Q E) : rPrp C sp dvs E (.ref a) H Q := by
  obtain ⟨⟨dx, tp, tf, e, _⟩, _⟩ := h
  exact ⟨a, dx, _, rfl, e, q⟩
theorem pastH (c : Cls K C) (n : NoAttr K C "past") (h : HistAt K C H a ps fs) (q : ∀ tp, SqT K H tp (ps.map V.str) → Q (.ref tp) H) : rFld K "past" (.ref a) H Q := by
  obtain ⟨⟨dx, tp, tf, e, h1, _⟩, _⟩ := h
  exact ⟨a, C, dx, _, _, rfl, e, c, n, flds_past _ _, q tp h1⟩
theorem futH (c : Cls K C) (n : NoAttr K C "future") (h : HistAt K C H a ps fs) (q : ∀ tf, SqT K H tf (fs.map V.str) → Q (.ref tf) H) : rFld K "future" (.ref a) H Q := by
  obtain ⟨⟨dx, tp, tf, e, _, h2⟩, _⟩ := h
  exact ⟨a, C, dx, _, _, rfl, e, c, n, flds_future _ _, q tf h2⟩
theorem c_isiC (c : C8.InsC K C) {dx : Addr} {gs : List (Str × V)} (e : H a = some (.ins C dx gs)) (q : Q (.bl true) H) : rIsi K [.ref a, .ref C] H Q :=
  ⟨.ref a, .ref C, .ref C, .ref C, true, rfl, .own C, .base (TyOf.ins e c.cl c.ha c.hn c.htk c.hm), c.me, q⟩
end
section
variable {P : Program} {w : World} {K : PySem.W.Frag} {mg : Str → Option Value} {base : Heap}
def spEqH (K : PySem.W.Frag) (C : Addr) : Sp := fun vs H Q _ => ∃ (a b : Addr) (ps fs qs gs : List Str), vs = [.ref a, .ref b] ∧ HistAt K C H a ps fs ∧ HistAt K C H b qs gs ∧ Q (.bl (decide (ps = qs ∧ fs = gs))) H
theorem ok_eq (T : TX K mg) : FnOk P w K mg base CX0 1 T.f_History_eq T.fd_History_eq pHEq (spEqH K T.C_History) := by
  refine T.F_History_eq.ok scHEq (fun vs H Q E h => ?_) (fun cdv A outer s H vs Q E hr h => ?_)
  · obtain ⟨a, b, ps, fs, qs, gs, rfl, _⟩ := h
    rfl
  · obtain ⟨a, b, ps, fs, qs, gs, rfl, hA, hB, q⟩ := h
    refine ⟨_, pss_one (ps_ret (pe_and (pe_callB (callIsi (K := K)) (by rfl) T.isinstance (by decide +kernel) (pa_cons (pv 1) (pa_cons (pe_glob (v := .ref T.C_History) rfl T.m_History rfl) pa_nil))) (pe_and (pe_cmpR (opEqD (K := K) hr.units) (peFld (K := K) (pv 0) rfl) (peFld (K := K) (pv 1) rfl) (nomark _)) (pe_one (pe_cmpR (opEqD (K := K) hr.units) (peFld (K := K) (pv 0) rfl) (peFld (K := K) (pv 1) rfl) (nomark _)))))), ?_⟩
    obtain ⟨⟨dx, tp, tf, eb, _⟩, _⟩ := id hB
    walk_at "go"
    refine c_isiC T.is_History eb ?_
    walk_at "go"
    refine pastH T.cl_History T.n_History_past hA fun t1 h1 => ?_
    walk_at "go"
    refine pastH T.cl_History T.n_History_past hB fun t2 h2 => ?_
    refine c_eqD (dp_names h1) (dp_names h2) (dok_names fun z hz => (hA.okp z hz).low) (dok_names fun z hz => (hB.okp z hz).low) (by decide) (by decide) ?_
    rw [eqv_names]
    walk_at "go"
    by_cases e1 : ps = qs
    · walk_at "go"
      refine futH T.cl_History T.n_History_future hA fun t3 h3 => ?_
      walk_at "go"
      refine futH T.cl_History T.n_History_future hB fun t4 h4 => ?_
      refine c_eqD (dp_names h3) (dp_names h4) (dok_names fun z hz => (hA.okf z hz).low) (dok_names fun z hz => (hB.okf z hz).low) (by decide) (by decide) ?_
      rw [eqv_names]
      have e : decide (ps = qs ∧ fs = gs) = decide (fs = gs) := by simp [e1]
      rw [e] at q
      exact q
    · rw [decide_eq_false e1]
      have e : decide (ps = qs ∧ fs = gs) = false := decide_eq_false fun z => e1 z.1
      rw [e] at q
      exact q
end
end Und
namespace Und
open PySem PySem.Spec PyProof.Rows L2
local macro_rules | `(tactic| walk_at "side") => `(tactic| first | decide | omega | exact ⟨by omega, by omega⟩ | (show (0 : Int) < _; omega) | (exact Or.inl ⟨by omega, by omega⟩) | (exact Or.inr ⟨by omega, by omega⟩) | (exact sz (by simp)) | (exact szl (by simp)))
local macro_rules | `(tactic| walk_at "u") => `(tactic| first
  | with_reducible refine c_seq ?_ | with_reducible refine c_next ?_ | with_reducible refine c_yes ?_ | with_reducible refine c_asg ?_ | with_reducible refine c_asg2 ?_ | with_reducible refine c_par ?_ | with_reducible refine c_two ?_ | with_reducible refine c_g ?_ | with_reducible refine c_gsub ?_ | with_reducible refine c_gcons ?_ | with_reducible refine c_gnil ?_ | with_reducible refine c_ret ?_ | with_reducible refine c_drop ?_
  | ((with_reducible refine c_var (v := ?v) ?h ?_); (case h => rfl)) | with_reducible refine c_c ?_ | with_reducible refine c_op ?_ | with_reducible refine c_un ?_ | with_reducible refine c_I0 ?_
  | ((with_reducible refine c_I ?h ?_); (case h => walk_at "side"))
  | ((with_reducible refine c_eq ?h ?_); (case h => rfl)) | ((with_reducible refine c_neq ?h ?_); (case h => rfl)) | with_reducible refine c_test ?_ | with_reducible refine c_B ?_ | with_reducible refine c_bl ?_ | with_reducible refine c_int ?_ | with_reducible refine c_ifs ?_ | with_reducible refine c_ife ?_
  | with_reducible refine c_andV ?_ | with_reducible refine c_orV ?_ | with_reducible refine c_notV ?_ | with_reducible refine c_and ?_ | with_reducible refine c_or ?_ | with_reducible refine c_not ?_
  | with_reducible refine c_call ?_ | with_reducible refine c_cb ?_ | with_reducible refine c_nil ?_ | with_reducible refine c_cons ?_
  | with_reducible refine c_tup ?_ | with_reducible refine c_lst ?_ | with_reducible refine c_sl ?_ | with_reducible refine c_nop ?_ | with_reducible refine c_part ?_ | with_reducible refine c_fld ?_
  | with_reducible refine c_for ?_ | with_reducible refine c_ilist ?_ | with_reducible refine c_itup ?_ | with_reducible refine c_irng1 ?_ | with_reducible refine c_lc ?_
  | with_reducible refine c_m1 ?_ | with_reducible refine c_isS ?_ | with_reducible refine c_chain ?_ | with_reducible refine c_str ?_ | with_reducible refine c_make ?_ | with_reducible refine c_meth ?_ | with_reducible refine c_prop ?_ | with_reducible refine c_sfld ?_ | with_reducible refine c_ienumT ?_ | with_reducible refine iteT ?_ | with_reducible refine iteF ?_ | with_reducible refine iteNT ?_ | with_reducible refine iteNF ?_
  | ((with_reducible refine iteDT ?h ?_); (case h => first | rfl | omega)) | ((with_reducible refine iteDF ?h ?_); (case h => first | omega | (intro z; cases z; done))) | ((with_reducible refine iteNDT ?h ?_); (case h => first | rfl | omega)) | ((with_reducible refine iteNDF ?h ?_); (case h => first | omega | (intro z; cases z; done))))
local macro_rules | `(tactic| walk_at "go") => `(tactic| repeat (walk_at "u"))
local macro_rules | `(tactic| walk_at "u") => `(tactic| first | with_reducible refine c_smeth ?_ | with_reducible refine c_makeR ?_ | with_reducible refine c_star ?_)
/-! ### commands in the heap -/
/-- two rows, item by item -/
def All2 {α : Type} (R : V → α → Prop) (vs : List V) (ms : List α) : Prop := vs.length = ms.length ∧ ∀ (i : Nat) v m, vs[i]? = some v → ms[i]? = some m → R v m
theorem All2.imp {α : Type} {R R' : V → α → Prop} {vs : List V} {ms : List α} (h : All2 R vs ms) (f : ∀ v m, R v m → R' v m) : All2 R' vs ms := ⟨h.1, fun i v m a b => f v m (h.2 i v m a b)⟩
theorem All2.nil {α : Type} {R : V → α → Prop} : All2 R [] [] := ⟨rfl, fun i v m a _ => by simp at a⟩
theorem All2.app {α : Type} {R : V → α → Prop} {vs ws : List V} {ms ns : List α} (h : All2 R vs ms) (g : All2 R ws ns) : All2 R (vs ++ ws) (ms ++ ns) := by
  refine ⟨by rw [List.length_append, List.length_append, h.1, g.1], fun i v m a b => ?_⟩
  by_cases hi : i < vs.length
  · rw [List.getElem?_append_left hi] at a
    rw [List.getElem?_append_left (by rw [← h.1]; exact hi)] at b
    exact h.2 i v m a b
  · rw [List.getElem?_append_right (by omega)] at a
    rw [List.getElem?_append_right (by rw [← h.1]; omega), ← h.1] at b
    exact g.2 _ v m a b
theorem All2.one {α : Type} {R : V → α → Prop} {v : V} {m : α} (h : R v m) : All2 R [v] [m] := by
  refine ⟨rfl, fun i v' m' a b => ?_⟩
  cases i with
  | zero =>
    cases a
    cases b
    exact h
  | succ i => simp at a
theorem All2.get {α : Type} {R : V → α → Prop} {vs : List V} {ms : List α} (h : All2 R vs ms) {i : Nat} {v : V} (e : vs[i]? = some v) : ∃ m, ms[i]? = some m ∧ R v m := by
  obtain ⟨hi, _⟩ := List.getElem?_eq_some_iff.mp e
  have hj : i < ms.length := by rw [← h.1]; exact hi
  exact ⟨ms[i], List.getElem?_eq_getElem hj, h.2 i v _ e (List.getElem?_eq_getElem hj)⟩
def MvAt (K : PySem.W.Frag) (H : Hp) (v : V) (m : Mv) : Prop := ∃ a x, v = .ref a ∧ SqT K H a [.str (wdM m.1), x] ∧ AmOf x m.2
theorem MvAt.mono {K : PySem.W.Frag} {H H' : Hp} {v : V} {m : Mv} (s : Same H H') (h : MvAt K H v m) : MvAt K H' v m := by
  obtain ⟨a, x, e, h1, h2⟩ := h
  exact ⟨a, x, e, same_seqT s h1, h2⟩
/-- a command stands at v -/
def CmdAt (K : PySem.W.Frag) (H : Hp) (v : V) : Cmd → Prop
  | .dd z => ∃ a, v = .ref a ∧ SqT K H a [.str "do", .str z] ∧ IsName z
  | .mv m => MvAt K H v m
  | .rep n ms => ∃ a b vs, v = .ref a ∧ SqT K H a [.str "repeat", .int n, .ref b] ∧ SqT K H b vs ∧ All2 (MvAt K H) vs ms ∧ 1 ≤ n ∧ 1 ≤ ms.length ∧ ms.length ≤ 1000
theorem CmdAt.mono {K : PySem.W.Frag} {H H' : Hp} {v : V} {c : Cmd} (s : Same H H') (h : CmdAt K H v c) : CmdAt K H' v c := by
  cases c with
  | dd z =>
    obtain ⟨a, e, h1, h2⟩ := h
    exact ⟨a, e, same_seqT s h1, h2⟩
  | mv m => exact MvAt.mono s h
  | rep n ms =>
    obtain ⟨a, b, vs, e, h1, h2, h3, r⟩ := h
    exact ⟨a, b, vs, e, same_seqT s h1, same_seqT s h2, h3.imp fun _ _ => MvAt.mono s, r⟩
theorem w_ur : decide (V.str (Str.ofString "undo") = V.str (Str.ofString "redo")) = false := by decide +kernel
theorem w_ru : decide (V.str (Str.ofString "redo") = V.str (Str.ofString "undo")) = false := by decide +kernel
theorem w_ud : decide (V.str (Str.ofString "undo") = V.str (Str.ofString "do")) = false := by decide +kernel
theorem w_rd : decide (V.str (Str.ofString "redo") = V.str (Str.ofString "do")) = false := by decide +kernel
theorem w_up : decide (V.str (Str.ofString "undo") = V.str (Str.ofString "repeat")) = false := by decide +kernel
theorem w_rp : decide (V.str (Str.ofString "redo") = V.str (Str.ofString "repeat")) = false := by decide +kernel
theorem w_pd : decide (V.str (Str.ofString "repeat") = V.str (Str.ofString "do")) = false := by decide +kernel
theorem iteT_of {p : Prop} [Decidable p] (h : p) {A B : Prop} : (if decide p = true then A else B) = A := by
  rw [decide_eq_true h, if_pos rfl]
theorem iteF_of {p : Prop} [Decidable p] (h : ¬ p) {A B : Prop} : (if decide p = true then A else B) = B := by
  rw [decide_eq_false h, if_neg (by decide)]
theorem w_same (z : Str) : decide (V.str z = V.str z) = true := decide_eq_true rfl
theorem w_one : decide (V.int 1 = V.int 1) = true := decide_eq_true rfl
theorem i_same (z : Int) : decide (V.int z = V.int z) = true := decide_eq_true rfl
theorem i_32 : decide (V.int (3 : Nat) = V.int 2) = false := by decide +kernel
section
variable {P : Program} {w : World} {K : PySem.W.Frag} {mg : Str → Option Value} {base : Heap}
def spIsInt : Sp := fun vs H Q _ => ∃ n m : Int, vs = [.int n, .int m] ∧ Q (.bl (decide (m ≤ n))) H
theorem ok_is_integer (T : TX K mg) : FnOk P w K mg base CX0 1 T.f_is_integer T.fd_is_integer pIsInt spIsInt := by
  refine T.d_is_integer.F.ok scIsInt (fun vs H Q E h => ?_) (fun cdv A outer s H vs Q E hr h => ?_)
  · obtain ⟨n, m, rfl, _⟩ := h
    rfl
  · obtain ⟨n, m, rfl, q⟩ := h
    refine ⟨_, pss_one (ps_ret (pe_and (pe_callB (callIsi (K := K)) (by rfl) T.isinstance (by decide +kernel) (pa_cons (pv 0) (pa_cons (pe_bltn (v := .ty "int") (by rfl) T.int (by decide +kernel) rfl) pa_nil))) (pe_and (pe_not (pe_callB (callIsi (K := K)) (by rfl) T.isinstance (by decide +kernel) (pa_cons (pv 0) (pa_cons (pe_bltn (v := .ty "bool") (by rfl) T.bool (by decide +kernel) rfl) pa_nil)))) (pe_one (pe_cmpR op_ge (pv 0) (pv 1) (nomark _)))))), ?_⟩
    walk_at "go"
    refine c_isi (r := true) (ty_int n) (by decide +kernel) ?_
    walk_at "go"
    refine c_isi (r := false) (ty_int n) (by decide +kernel) ?_
    walk_at "go"
    exact q
def spIsStep (K : PySem.W.Frag) : Sp := fun vs H Q _ => ∃ v m, vs = [v] ∧ MvAt K H v m ∧ Q (.bl true) H
theorem ok_is_step (T : TX K mg) : FnOk P w K mg base CX0 3 T.f_is_step T.fd_is_step pIsStep (spIsStep K) := by
  have G_is_amount := ok_is_amount (P := P) (w := w) (base := base) T
  refine T.d_is_step.F.ok scIsStep (fun vs H Q E h => ?_) (fun cdv A outer s H vs Q E hr h => ?_)
  · obtain ⟨v, m, rfl, _⟩ := h
    rfl
  · obtain ⟨v, m, rfl, hm, q⟩ := h
    obtain ⟨a, x, rfl, hT, hx⟩ := hm
    refine ⟨_, pss_cons (ps_if (PW.pt (pw_or (pt_not (pt_val (pe_callB (callIsi (K := K)) (by rfl) T.isinstance (by decide +kernel) (pa_cons (pv 0) (pa_cons (pe_bltn (v := .ty "tuple") (by rfl) T.tuple (by decide +kernel) rfl) pa_nil))))) (pw_or (pt_cmpR op_ne (pe_callB (callLn (K := K)) (by rfl) T.len (by decide +kernel) (pa_cons (pv 0) pa_nil)) (pe_int) (nomark _)) (pw_or1 (pt_not (pt_val (pe_callB (callIsi (K := K)) (by rfl) T.isinstance (by decide +kernel) (pa_cons (pe_ix (ixT (K := K)) (pv 0) (pe_int) (fun _ _ => rfl)) (pa_cons (pe_bltn (v := .ty "str") (by rfl) T.str (by decide +kernel) rfl) pa_nil))))))))) (pss_one (ps_ret (pe_bl))) (pss_nil))
      (pss_one (ps_ret (pe_and (pe_or (pe_cmpR op_eq (pe_ix (ixT (K := K)) (pv 0) (pe_int) (fun _ _ => rfl)) (pe_str) (nomark _)) (pe_one (pe_cmpR op_eq (pe_ix (ixT (K := K)) (pv 0) (pe_int) (fun _ _ => rfl)) (pe_str) (nomark _)))) (pe_one (pcall T.d_is_amount G_is_amount (hr.mono (by decide)) (by rfl) pass0 (pa_cons (pe_ix (ixT (K := K)) (pv 0) (pe_int) (fun _ _ => rfl)) pa_nil)))))), ?_⟩
    walk_at "go"
    refine c_isi (r := true) (ty_tup hT) (by decide +kernel) ?_
    walk_at "go"
    refine c_lnT hT ?_
    walk_at "go"
    refine c_ixT hT 0 rfl rfl ?_
    walk_at "go"
    refine c_isi (r := true) (ty_str _) (by decide +kernel) ?_
    walk_at "go"
    refine c_ixT hT 0 rfl rfl ?_
    obtain ⟨b, am⟩ := m
    cases b with
    | true =>
      walk_at "go"
      refine c_ixT hT 1 rfl rfl ?_
      walk_at "go"
      exact ⟨x, am, rfl, hx, q⟩
    | false =>
      walk_at "go"
      refine c_ixT hT 0 rfl rfl ?_
      walk_at "go"
      refine c_ixT hT 1 rfl rfl ?_
      walk_at "go"
      exact ⟨x, am, rfl, hx, q⟩
def spIsRep (K : PySem.W.Frag) : Sp := fun vs H Q _ => ∃ v n ms, vs = [v] ∧ CmdAt K H v (.rep n ms) ∧ ∀ H', Same H H' → Q (.bl true) H'
theorem ok_is_repeat (T : TX K mg) : FnOk P w K mg base CX0 4 T.f_is_repeat T.fd_is_repeat pIsRep (spIsRep K) := by
  have G_is_step := ok_is_step (P := P) (w := w) (base := base) T
  have G_is_integer := ok_is_integer (P := P) (w := w) (base := base) T
  refine T.d_is_repeat.F.ok scIsRep (fun vs H Q E h => ?_) (fun cdv A outer s H vs Q E hr h => ?_)
  · obtain ⟨v, n, ms, rfl, _⟩ := h
    rfl
  · obtain ⟨v, n, ms, rfl, hc, q⟩ := h
    obtain ⟨a, b, us, rfl, hT, hU, hA, h1, h2, h3⟩ := hc
    refine ⟨_, pss_cons (ps_if (PW.pt (pw_or (pt_not (pt_val (pe_callB (callIsi (K := K)) (by rfl) T.isinstance (by decide +kernel) (pa_cons (pv 0) (pa_cons (pe_bltn (v := .ty "tuple") (by rfl) T.tuple (by decide +kernel) rfl) pa_nil))))) (pw_or (pt_cmpR op_ne (pe_callB (callLn (K := K)) (by rfl) T.len (by decide +kernel) (pa_cons (pv 0) pa_nil)) (pe_int) (nomark _)) (pw_or1 (pt_not (pt_val (pe_callB (callIsi (K := K)) (by rfl) T.isinstance (by decide +kernel) (pa_cons (pe_ix (ixT (K := K)) (pv 0) (pe_int) (fun _ _ => rfl)) (pa_cons (pe_bltn (v := .ty "str") (by rfl) T.str (by decide +kernel) rfl) pa_nil))))))))) (pss_one (ps_ret (pe_bl))) (pss_nil))
      (pss_cons (ps_asg (pv 0) (pgTup (K := K) (n := 3) (by rfl) (pgs_cons (pg_name (i := 1) scIsRep.nd rfl (.inl rfl)) (pgs_cons (pg_name (i := 2) scIsRep.nd rfl (.inl rfl)) (pgs_cons (pg_name (i := 3) scIsRep.nd rfl (.inl rfl)) pgs_nil)))))
      (pss_cons (ps_if (PW.pt (pw_or (pt_cmpR op_ne (pv 1) (pe_str) (nomark _)) (pw_or (pt_not (pt_val (pcall T.d_is_integer G_is_integer (hr.mono (by decide)) (by rfl) pass0 (pa_cons (pv 2) (pa_cons (pe_int) pa_nil))))) (pw_or1 (pt_not (pt_val (pe_callB (callIsi (K := K)) (by rfl) T.isinstance (by decide +kernel) (pa_cons (pv 3) (pa_cons (pe_bltn (v := .ty "tuple") (by rfl) T.tuple (by decide +kernel) rfl) pa_nil))))))))) (pss_one (ps_ret (pe_bl))) (pss_nil))
      (pss_one (ps_ret (pe_and (pe_cmpR op_gt (pe_callB (callLn (K := K)) (by rfl) T.len (by decide +kernel) (pa_cons (pv 3) pa_nil)) (pe_int) (nomark _)) (pe_one (pe_callB (crAll (K := K) rfl) (by rfl) T.all (by decide +kernel) (pa_cons (pe_lc (own := [("step", 4)]) (g := gName 4) (tt := tYes) (by rfl) scIsRep.nd (piTup (K := K) (pv 3)) (blkOk_by (own := [("step", 4)]) (N := nIsRep) (sc := defScope sIsRep) (by decide +kernel)) (fun _ _ _ _ _ => pg_name (i := 4) scIsRep.nd rfl (.inl rfl)) (fun _ _ _ _ _ => pts_nil) (fun _ _ _ _ _ => pcall T.d_is_step G_is_step (hr.mono (by decide)) (by rfl) pass0 (pa_cons (pv 4) pa_nil))) pa_nil)))))))), ?_⟩
    walk_at "go"
    refine c_isi (r := true) (ty_tup hT) (by decide +kernel) ?_
    walk_at "go"
    refine c_lnT hT ?_
    walk_at "go"
    refine c_ixT hT 0 rfl rfl ?_
    walk_at "go"
    refine c_isi (r := true) (ty_str _) (by decide +kernel) ?_
    walk_at "go"
    refine c_gtup hT rfl ?_
    walk_at "go"
    refine ⟨n, 1, rfl, ?_⟩
    rw [decide_eq_true h1]
    walk_at "go"
    refine c_isi (r := true) (ty_tup hU) (by decide +kernel) ?_
    walk_at "go"
    refine c_lnT hU ?_
    have hl := hA.1
    walk_at "go"
    refine ⟨b, rfl, ⟨us, hU⟩, fun D nD => ?_⟩
    refine lc_tp (fun _ v => v = V.bl true) nD (by omega) hU (fun _ => rfl) (fun i x H5 Q' hi s5 k => ?_) (fun H5 xs s5 e5 l r => ?_)
    · obtain ⟨m, _, hm⟩ := hA.get hi
      walk_at "go"
      exact ⟨x, m, rfl, hm.mono s5, k _ _ (Same.refl _) rfl⟩
    · obtain ⟨bs, rfl, hb⟩ := bls_of (n := 0) fun i y e => r i y e
      refine c_all (.inl (.inl e5)) ?_
      rw [hb]
      exact q H5 s5
theorem mvd_N (am : Option Int) (n : Nat) : mvd am n = mvN am n := rfl
def spPS (K : PySem.W.Frag) : Sp := fun vs H Q _ => ∃ (b : Addr) (us : List V) (ms : List Mv) (p n : Nat), vs = [.ref b, .int p, .int n] ∧ SqT K H b us ∧ All2 (MvAt K H) us ms ∧ p ≤ n ∧ n ≤ 1000000000000000000000000000000000000000000000000000000000000000000000000000000000000000000000000000000000000000000000000000000000000000000000000000000000000000000000000000000000000000000000000000000000000000000000000000000000000000000000000000000000000000000000000000000000000000000000000000000000000000000000000000000000000000000000000000000000000000000000000000000000000000000000000000000000000000000000000000000000000000000000000000000000000000000000000000000000000000000000000000000000000000000000000000000000000000000000000000000000000000000000000000000000000000000000000000000000000000000000000 ∧ Q (.int (stP n p ms : Nat)) H
theorem ok_steps (T : TX K mg) : FnOk P w K mg base CX0 1 T.f_place_after_steps T.fd_place_after_steps pPSteps (spPS K) := by
  refine T.d_place_after_steps.F.ok scPSteps (fun vs H Q E h => ?_) (fun cdv A outer s H vs Q E hr h => ?_)
  · obtain ⟨b, us, ms, p, n, rfl, _⟩ := h
    rfl
  · obtain ⟨b, us, ms, p, n, rfl, hU, hA, hp, hn, q⟩ := h
    refine ⟨_, pss_cons (ps_for PassesOwn.never rfl (piTup (K := K) (pv 0)) (pgTup (K := K) (n := 2) (by rfl) (pgs_cons (pg_name (i := 3) scPSteps.nd rfl (.inl rfl)) (pgs_cons (pg_name (i := 4) scPSteps.nd rfl (.inl rfl)) pgs_nil)))
        (pss_one (ps_if (pt_cmpR op_eq (pv 3) (pe_str) (nomark _)) (pss_one (ps_set (i := 1) scPSteps.nd rfl (.inl rfl) (pe_ifExp (PW.pt (pw_or (pt_cmpR op_isN (pv 4) (pe_non) (nomark _)) (pw_or1 (pt_cmpR op_gt (pv 4) (pv 1) (nomark _))))) (pe_int) (pe_op op_sub (pv 1) (pv 4))))) (pss_one (ps_set (i := 1) scPSteps.nd rfl (.inl rfl) (pe_ifExp (PW.pt (pw_or (pt_cmpR op_isN (pv 4) (pe_non) (nomark _)) (pw_or1 (pt_cmpR op_gt (pv 4) (pe_op op_sub (pv 2) (pv 1)) (nomark _))))) (pv 2) (pe_op op_add (pv 1) (pv 4))))))))
      (pss_one (ps_ret (pv 1))), ?_⟩
    walk_at "go"
    refine ⟨b, rfl, ⟨us, hU⟩, ?_⟩
    refine for_tup (xs := us) (fun i σ H' => H' = H ∧ ∃ x y, σ = [some (.ref b), some (.int (stP n p (ms.take i) : Nat)), some (.int n), x, y]) ⟨rfl, _, _, rfl⟩ (fun i σ H' _ h => h.1 ▸ hU) (fun i x σ H' hx h => ?_) (fun σ H' h => ?_)
    · obtain ⟨rfl, x1, x2, rfl⟩ := h
      obtain ⟨m, em, a, v, rfl, hT, hv⟩ := hA.get hx
      have hs : ms.take (i + 1) = ms.take i ++ [m] := by
        rw [List.take_succ, em]
        rfl
      have hp' := stP_le (ms.take i) hp
      have e1 : (stP n p (ms.take (i + 1)) : Int) = (mvP n (stP n p (ms.take i)) m : Nat) := by
        rw [hs, stP_app]
        rfl
      have e2 := mvP_at m hp'
      refine c_gtup hT rfl ?_
      rw [e1]
      generalize stP n p (ms.take i) = r at *
      obtain ⟨bb, am⟩ := m
      cases bb with
      | true =>
        rw [if_pos rfl] at e2
        walk_at "go"
        refine ⟨rfl, ?_⟩
        rcases hv.cases with ⟨rfl, rfl⟩ | ⟨k, rfl, rfl, hk⟩
        · walk_at "go"
          have e3 : mvP n r (true, none) = 0 := by
            show r - r = 0
            omega
          rw [e3]
          exact ⟨rfl, _, _, rfl⟩
        · walk_at "go"
          have hm : (mvN (some k) n : Int) = min k n := by
            show ((min k.toNat n : Nat) : Int) = _
            omega
          rw [hm] at e2
          by_cases hlt : (r : Int) < k
          · rw [iteT_of hlt]
            walk_at "go"
            rw [show (mvP n r (true, some k) : Int) = 0 from by omega]
            exact ⟨rfl, _, _, rfl⟩
          · rw [iteF_of hlt]
            walk_at "go"
            rw [show (mvP n r (true, some k) : Int) = r - k from by omega]
            exact ⟨rfl, _, _, rfl⟩
      | false =>
        rw [if_neg Bool.false_ne_true] at e2
        walk_at "go"
        refine ⟨rfl, ?_⟩
        rcases hv.cases with ⟨rfl, rfl⟩ | ⟨k, rfl, rfl, hk⟩
        · walk_at "go"
          have e3 : mvP n r (false, none) = n := by
            show r + (n - r) = n
            omega
          rw [e3]
          exact ⟨rfl, _, _, rfl⟩
        · walk_at "go"
          have hm : (mvN (some k) n : Int) = min k n := by
            show ((min k.toNat n : Nat) : Int) = _
            omega
          rw [hm] at e2
          by_cases hlt : (n : Int) - (r : Int) < k
          · rw [iteT_of hlt]
            walk_at "go"
            rw [show (mvP n r (false, some k) : Int) = n from by omega]
            exact ⟨rfl, _, _, rfl⟩
          · rw [iteF_of hlt]
            walk_at "go"
            rw [show (mvP n r (false, some k) : Int) = r + k from by omega]
            exact ⟨rfl, _, _, rfl⟩
    · obtain ⟨rfl, x1, x2, rfl⟩ := h
      rw [List.take_of_length_le (by rw [← hA.1]; omega)]
      walk_at "go"
      exact q
/-! ### over the commands that a comprehension's test lets through -/
def spSh (K : PySem.W.Frag) : Sp := fun vs H Q _ => ∃ (b : Addr) (us : List V) (ms : List Mv) (n : Nat), vs = [.ref b, .int n] ∧ SqT K H b us ∧ All2 (MvAt K H) us ms ∧ ms.length ≤ 1000 ∧ n ≤ 1000000000000000000000000000000000000000000000000000000000000000000000000000000000000000000000000000000000000000000000000000000000000000000000000000000000000000000000000000000000000000000000000000000000000000000000000000000000000000000000000000000000000000000000000000000000000000000000000000000000000000000000000000000000000000000000000000000000000000000000000000000000000000000000000000000000000000000000000000000000000000000000000000000000000000000000000000000000000000000000000000000000000000000000000000000000000000000000000000000000000000000000000000000000000000000000000000000000000000000000000 ∧ ∀ H', Same H H' → Q (.int (stS n ms)) H'
def mvU (n : Nat) (b : Bool) (ms : List Mv) : List Int := (ms.filter fun m => m.1 == b).map fun m => (mvN m.2 n : Int)
theorem mvU_sum (n : Nat) : ∀ ms : List Mv, (mvU n false ms).sum - (mvU n true ms).sum = stS n ms
  | [] => rfl
  | (b, am) :: ms => by
    have ih := mvU_sum n ms
    have e : stS n ((b, am) :: ms) = mvS n (b, am) + stS n ms := by
      unfold stS
      rw [List.map_cons, List.sum_cons]
    rw [e, ← ih]
    cases b with
    | true =>
      show (mvU n false ms).sum - ((mvN am n : Int) + (mvU n true ms).sum) = -(mvN am n : Int) + _
      omega
    | false =>
      show ((mvN am n : Int) + (mvU n false ms).sum) - (mvU n true ms).sum = (mvN am n : Int) + _
      omega
theorem mvU_snoc (n : Nat) (b : Bool) (ms : List Mv) (m : Mv) : mvU n b (ms ++ [m]) = mvU n b ms ++ (if m.1 = b then [(mvN m.2 n : Int)] else []) := by
  unfold mvU
  rw [List.filter_append, List.map_append]
  congr 1
  by_cases h : m.1 = b
  · rw [if_pos h]
    simp [List.filter, h]
  · rw [if_neg h]
    have : (m.1 == b) = false := by simpa using h
    simp [List.filter, this]
theorem ok_shift (T : TX K mg) : FnOk P w K mg base CX0 2 T.f_shift_of_steps T.fd_shift_of_steps pShift (spSh K) := by
  have G_number_moved := ok_moved (P := P) (w := w) (base := base) T
  refine T.d_shift_of_steps.F.ok scShift (fun vs H Q E h => ?_) (fun cdv A outer s H vs Q E hr h => ?_)
  · obtain ⟨b, us, ms, n, rfl, _⟩ := h
    rfl
  · obtain ⟨b, us, ms, n, rfl, hU, hA, hl, hn, q⟩ := h
    refine ⟨_, pss_cons (ps_set (i := 2) scShift.nd rfl (.inl rfl) (pe_callB (crSum (K := K) rfl) (by rfl) T.sum (by decide +kernel) (pa_cons (pe_lc (own := [("word", 4), ("amount", 5)])  (by rfl) scShift.nd (piTup (K := K) (pv 0)) (blkOk_by (own := [("word", 4), ("amount", 5)]) (N := nShift) (sc := defScope sShift) (by decide +kernel)) (fun _ _ _ _ _ => pgTup (K := K) (n := 2) (by rfl) (pgs_cons (pg_name (i := 4) scShift.nd rfl (.inl rfl)) (pgs_cons (pg_name (i := 5) scShift.nd rfl (.inl rfl)) pgs_nil))) (fun _ _ _ _ _ => pts_one (pt_cmpR op_eq (pv 4) (pe_str) (nomark _))) (fun _ _ _ _ _ => pcall T.d_number_moved G_number_moved (hr.mono (by decide)) (by rfl) pass0 (pa_cons (pv 5) (pa_cons (pv 1) pa_nil)))) pa_nil)))
      (pss_cons (ps_set (i := 3) scShift.nd rfl (.inl rfl) (pe_callB (crSum (K := K) rfl) (by rfl) T.sum (by decide +kernel) (pa_cons (pe_lc (own := [("word", 4), ("amount", 5)])  (by rfl) scShift.nd (piTup (K := K) (pv 0)) (blkOk_by (own := [("word", 4), ("amount", 5)]) (N := nShift) (sc := defScope sShift) (by decide +kernel)) (fun _ _ _ _ _ => pgTup (K := K) (n := 2) (by rfl) (pgs_cons (pg_name (i := 4) scShift.nd rfl (.inl rfl)) (pgs_cons (pg_name (i := 5) scShift.nd rfl (.inl rfl)) pgs_nil))) (fun _ _ _ _ _ => pts_one (pt_cmpR op_eq (pv 4) (pe_str) (nomark _))) (fun _ _ _ _ _ => pcall T.d_number_moved G_number_moved (hr.mono (by decide)) (by rfl) pass0 (pa_cons (pv 5) (pa_cons (pv 1) pa_nil)))) pa_nil)))
      (pss_one (ps_ret (pe_op op_sub (pv 3) (pv 2))))), ?_⟩
    have hul := hA.1
    walk_at "go"
    refine ⟨b, rfl, ⟨us, hU⟩, fun D nD => ?_⟩
    refine lc_tup (xs := us) (fun i H' => Same H H' ∧ H' D = some (.lst ((mvU n true (ms.take i)).map V.int))) ⟨same_new nD, upd_same⟩ (fun i H' _ h => same_seqT h.1 hU) (fun i x H' hx h => ?_) (fun H1 h => ?_)
    · obtain ⟨sx, eD⟩ := h
      obtain ⟨m, em, a, v, rfl, hT, hv⟩ := hA.get hx
      have hs : ms.take (i + 1) = ms.take i ++ [m] := by
        rw [List.take_succ, em]
        rfl
      have hlen : (mvU n true (ms.take i)).length ≤ 1000 := by
        unfold mvU
        rw [List.length_map]
        have := List.length_filter_le (fun m : Mv => m.1 == true) (ms.take i)
        rw [List.length_take] at this
        omega
      refine c_gtup (same_seqT sx hT) rfl ?_
      rw [hs, mvU_snoc]
      obtain ⟨bb, am⟩ := m
      cases bb with
      | true =>
        walk_at "go"
        refine ⟨rfl, ?_⟩
        walk_at "go"
        refine ⟨v, am, n, rfl, hv, _, eD, szl (by rw [List.length_map]; omega), Same.mut sx nD, ?_⟩
        rw [if_pos rfl, List.map_append]
        exact upd_same
      | false =>
        walk_at "go"
        refine ⟨rfl, ?_⟩
        walk_at "go"
        rw [if_neg Bool.false_ne_true, List.append_nil]
        exact ⟨sx, eD⟩
    · obtain ⟨s1, eD⟩ := h
      rw [List.take_of_length_le (by rw [← hA.1]; omega)] at eD
      walk_at "go"
      refine ⟨D, _, rfl, .inl (.inl eD), ?_⟩
      walk_at "go"
      refine ⟨b, rfl, ⟨us, same_seqT s1 hU⟩, fun D nD => ?_⟩
      refine lc_tup (xs := us) (fun i H' => Same H1 H' ∧ H' D = some (.lst ((mvU n false (ms.take i)).map V.int))) ⟨same_new nD, upd_same⟩ (fun i H' _ h => same_seqT (s1.trans h.1) hU) (fun i x H' hx h => ?_) (fun H2 h => ?_)
      · obtain ⟨sx, eD⟩ := h
        obtain ⟨m, em, a, v, rfl, hT, hv⟩ := hA.get hx
        have hs : ms.take (i + 1) = ms.take i ++ [m] := by
          rw [List.take_succ, em]
          rfl
        have hlen : (mvU n false (ms.take i)).length ≤ 1000 := by
          unfold mvU
          rw [List.length_map]
          have := List.length_filter_le (fun m : Mv => m.1 == false) (ms.take i)
          rw [List.length_take] at this
          omega
        refine c_gtup (same_seqT (s1.trans sx) hT) rfl ?_
        rw [hs, mvU_snoc]
        obtain ⟨bb, am⟩ := m
        cases bb with
        | false =>
          walk_at "go"
          refine ⟨rfl, ?_⟩
          walk_at "go"
          refine ⟨v, am, n, rfl, hv, _, eD, szl (by rw [List.length_map]; omega), Same.mut sx nD, ?_⟩
          rw [if_pos rfl, List.map_append]
          exact upd_same
        | true =>
          walk_at "go"
          refine ⟨rfl, ?_⟩
          walk_at "go"
          rw [if_neg (fun z => Bool.noConfusion z), List.append_nil]
          exact ⟨sx, eD⟩
      · obtain ⟨s2, eD⟩ := h
        rw [List.take_of_length_le (by rw [← hA.1]; omega)] at eD
        walk_at "go"
        refine ⟨D, _, rfl, .inl (.inl eD), ?_⟩
        have e := mvU_sum n ms
        walk_at "go"
        rw [e]
        exact q H2 (s1.trans s2)
end
end Und
namespace Und
open PySem PySem.Spec PyProof.Rows L2
local macro_rules | `(tactic| walk_at "side") => `(tactic| first | decide | omega | exact ⟨by omega, by omega⟩ | (show (0 : Int) < _; omega) | (exact Or.inl ⟨by omega, by omega⟩) | (exact Or.inr ⟨by omega, by omega⟩) | (exact sz (by simp)) | (exact szl (by simp)))
local macro_rules | `(tactic| walk_at "u") => `(tactic| first
  | with_reducible refine c_seq ?_ | with_reducible refine c_next ?_ | with_reducible refine c_yes ?_ | with_reducible refine c_asg ?_ | with_reducible refine c_asg2 ?_ | with_reducible refine c_par ?_ | with_reducible refine c_two ?_ | with_reducible refine c_g ?_ | with_reducible refine c_gsub ?_ | with_reducible refine c_gcons ?_ | with_reducible refine c_gnil ?_ | with_reducible refine c_ret ?_ | with_reducible refine c_drop ?_
  | ((with_reducible refine c_var (v := ?v) ?h ?_); (case h => rfl)) | with_reducible refine c_c ?_ | with_reducible refine c_op ?_ | with_reducible refine c_un ?_ | with_reducible refine c_I0 ?_
  | ((with_reducible refine c_I ?h ?_); (case h => walk_at "side"))
  | ((with_reducible refine c_eq ?h ?_); (case h => rfl)) | ((with_reducible refine c_neq ?h ?_); (case h => rfl)) | with_reducible refine c_test ?_ | with_reducible refine c_B ?_ | with_reducible refine c_bl ?_ | with_reducible refine c_int ?_ | with_reducible refine c_ifs ?_ | with_reducible refine c_ife ?_
  | with_reducible refine c_andV ?_ | with_reducible refine c_orV ?_ | with_reducible refine c_notV ?_ | with_reducible refine c_and ?_ | with_reducible refine c_or ?_ | with_reducible refine c_not ?_
  | with_reducible refine c_call ?_ | with_reducible refine c_cb ?_ | with_reducible refine c_nil ?_ | with_reducible refine c_cons ?_
  | with_reducible refine c_tup ?_ | with_reducible refine c_lst ?_ | with_reducible refine c_sl ?_ | with_reducible refine c_nop ?_ | with_reducible refine c_part ?_ | with_reducible refine c_fld ?_
  | with_reducible refine c_for ?_ | with_reducible refine c_ilist ?_ | with_reducible refine c_itup ?_ | with_reducible refine c_irng1 ?_ | with_reducible refine c_lc ?_
  | with_reducible refine c_m1 ?_ | with_reducible refine c_isS ?_ | with_reducible refine c_chain ?_ | with_reducible refine c_str ?_ | with_reducible refine c_make ?_ | with_reducible refine c_meth ?_ | with_reducible refine c_prop ?_ | with_reducible refine c_sfld ?_ | with_reducible refine c_ienumT ?_ | with_reducible refine iteT ?_ | with_reducible refine iteF ?_ | with_reducible refine iteNT ?_ | with_reducible refine iteNF ?_
  | ((with_reducible refine iteDT ?h ?_); (case h => first | rfl | omega)) | ((with_reducible refine iteDF ?h ?_); (case h => first | omega | (intro z; cases z; done))) | ((with_reducible refine iteNDT ?h ?_); (case h => first | rfl | omega)) | ((with_reducible refine iteNDF ?h ?_); (case h => first | omega | (intro z; cases z; done))))
local macro_rules | `(tactic| walk_at "go") => `(tactic| repeat (walk_at "u"))
local macro_rules | `(tactic| walk_at "u") => `(tactic| first | with_reducible refine c_smeth ?_ | with_reducible refine c_makeR ?_ | with_reducible refine c_star ?_)
section
variable {P : Program} {w : World} {K : PySem.W.Frag} {mg : Str → Option Value} {base : Heap}
def spPR (K : PySem.W.Frag) : Sp := fun vs H Q _ => ∃ (t : Int) (b : Addr) (us : List V) (ms : List Mv) (p n : Nat), vs = [.int t, .ref b, .int p, .int n] ∧ 1 ≤ t ∧ SqT K H b us ∧ All2 (MvAt K H) us ms ∧ ms.length ≤ 1000 ∧ p ≤ n ∧ n ≤ 10000 ∧ ∀ H', Same H H' → Q (.int (itP n ms t.toNat p : Nat)) H'
theorem stS_small {n : Nat} (hn : n ≤ 10000) : ∀ ms : List Mv, ms.length ≤ 1000 → -(10000 * (ms.length : Int)) ≤ stS n ms ∧ stS n ms ≤ 10000 * (ms.length : Int)
  | [], _ => by
    show -(10000 * ((0 : Nat) : Int)) ≤ (0 : Int) ∧ (0 : Int) ≤ 10000 * ((0 : Nat) : Int)
    omega
  | m :: ms, h => by
    have h' : ms.length ≤ 1000 := by
      rw [List.length_cons] at h
      omega
    have ih := stS_small hn ms h'
    have e : stS n (m :: ms) = mvS n m + stS n ms := by
      unfold stS
      rw [List.map_cons, List.sum_cons]
    have hm := mvN_le m.2 n
    rw [e, List.length_cons]
    unfold mvS
    split <;> omega
theorem ok_rep (T : TX K mg) : FnOk P w K mg base CX0 3 T.f_place_after_repeat T.fd_place_after_repeat pPRep (spPR K) := by
  have G_place_after_steps := ok_steps (P := P) (w := w) (base := base) T
  have G_shift_of_steps := ok_shift (P := P) (w := w) (base := base) T
  refine T.d_place_after_repeat.F.ok scPRep (fun vs H Q E h => ?_) (fun cdv A outer s H vs Q E hr h => ?_)
  · obtain ⟨t, b, us, ms, p, n, rfl, _⟩ := h
    rfl
  · obtain ⟨t, b, us, ms, p, n, rfl, ht, hU, hA, hl, hp, hn, q⟩ := h
    refine ⟨_, pss_cons (ps_set (i := 4) scPRep.nd rfl (.inl rfl) (pcall T.d_place_after_steps G_place_after_steps (hr.mono (by decide)) (by rfl) pass0 (pa_cons (pv 1) (pa_cons (pv 2) (pa_cons (pv 3) pa_nil)))))
      (pss_cons (ps_if (PW.pt (pw_or (pt_cmpR op_eq (pv 0) (pe_int) (nomark _)) (pw_or1 (pt_cmpR op_eq (pv 4) (pv 2) (nomark _))))) (pss_one (ps_ret (pv 4))) (pss_nil))
      (pss_cons (ps_set (i := 5) scPRep.nd rfl (.inl rfl) (pcall T.d_place_after_steps G_place_after_steps (hr.mono (by decide)) (by rfl) pass0 (pa_cons (pv 1) (pa_cons (pe_int) (pa_cons (pv 3) pa_nil)))))
      (pss_cons (ps_set (i := 6) scPRep.nd rfl (.inl rfl) (pcall T.d_place_after_steps G_place_after_steps (hr.mono (by decide)) (by rfl) pass0 (pa_cons (pv 1) (pa_cons (pv 3) (pa_cons (pv 3) pa_nil)))))
      (pss_one (ps_ret (pe_callB (callMax2 rfl) (by rfl) T.max (by decide +kernel) (pa_cons (pv 5) (pa_cons (pe_callB (callMin2 rfl) (by rfl) T.min (by decide +kernel) (pa_cons (pv 6) (pa_cons (pe_op op_add (pv 4) (pe_op op_mul (pe_op op_sub (pv 0) (pe_int)) (pcall T.d_shift_of_steps G_shift_of_steps (hr.mono (by decide)) (by rfl) pass0 (pa_cons (pv 1) (pa_cons (pv 3) pa_nil))))) pa_nil))) pa_nil)))))))), ?_⟩
    walk_at "go"
    refine ⟨b, us, ms, p, n, rfl, hU, hA, hp, Nat.le_trans hn (by decide), ?_⟩
    walk_at "go"
    by_cases h1 : t = 1
    · subst h1
      rw [w_one]
      walk_at "go"
      exact q H (Same.refl _)
    · rw [decide_eq_false (fun z => h1 (by cases z; rfl) : ¬ V.int t = V.int 1)]
      walk_at "go"
      by_cases h2 : (stP n p ms : Int) = p
      · rw [h2, i_same]
        walk_at "go"
        have e := itP_fix (ms := ms) (n := n) (p := p) (by omega) t.toNat
        have z := q H (Same.refl _)
        rw [e] at z
        exact z
      · rw [decide_eq_false (fun z => h2 (V.int.inj z) : ¬ V.int (stP n p ms : Nat) = V.int (p : Nat))]
        walk_at "go"
        refine ⟨b, us, ms, 0, n, rfl, hU, hA, Nat.zero_le _, Nat.le_trans hn (by decide), ?_⟩
        walk_at "go"
        refine ⟨b, us, ms, n, n, rfl, hU, hA, Nat.le_refl _, Nat.le_trans hn (by decide), ?_⟩
        walk_at "go"
        refine ⟨b, us, ms, n, rfl, hU, hA, hl, Nat.le_trans hn (by decide), fun H1 s1 => ?_⟩
        have hsm := stS_small hn ms hl
        have hc := itP_calc ms hp ht
        show rI CMul (fun i j => V.int (i * j)) (V.int (t - 1)) (V.int (stS n ms)) H1 _
        walk_at "go"
        refine c_min2 ?_
        walk_at "go"
        refine c_max2 ?_
        rw [hc]
        exact q H1 s1
def spPA (K : PySem.W.Frag) : Sp := fun vs H Q _ => ∃ (v : V) (c : Cmd) (p n : Nat), vs = [v, .int p, .int n] ∧ CmdAt K H v c ∧ p ≤ n ∧ n ≤ 10000 ∧
  match c with
  | .dd _ => False
  | .mv m => ∀ H', Same H H' → Q (.int (mvP n p m : Nat)) H'
  | .rep t ms => ∀ H', Same H H' → Q (.int (itP n ms t.toNat p : Nat)) H'
theorem ok_after (T : TX K mg) : FnOk P w K mg base CX0 4 T.f_place_after T.fd_place_after pPAft (spPA K) := by
  have G_place_after_steps := ok_steps (P := P) (w := w) (base := base) T
  have G_place_after_repeat := ok_rep (P := P) (w := w) (base := base) T
  refine T.d_place_after.F.ok scPAft (fun vs H Q E h => ?_) (fun cdv A outer s H vs Q E hr h => ?_)
  · obtain ⟨v, c, p, n, rfl, _⟩ := h
    rfl
  · obtain ⟨v, c, p, n, rfl, hc, hp, hn, q⟩ := h
    refine ⟨_, pss_cons (ps_if (pt_cmpR op_eq (pe_ix (ixT (K := K)) (pv 0) (pe_int) (fun _ _ => rfl)) (pe_str) (nomark _)) (pss_one (ps_ret (pcall T.d_place_after_repeat G_place_after_repeat (hr.mono (by decide)) (by rfl) pass0 (pa_cons (pe_ix (ixT (K := K)) (pv 0) (pe_int) (fun _ _ => rfl)) (pa_cons (pe_ix (ixT (K := K)) (pv 0) (pe_int) (fun _ _ => rfl)) (pa_cons (pv 1) (pa_cons (pv 2) pa_nil))))))) (pss_nil))
      (pss_one (ps_ret (pcall T.d_place_after_steps G_place_after_steps (hr.mono (by decide)) (by rfl) pass0 (pa_cons (pe_tup (pa_cons (pv 0) pa_nil)) (pa_cons (pv 1) (pa_cons (pv 2) pa_nil)))))), ?_⟩
    walk_at "go"
    cases c with
    | dd z => exact q.elim
    | mv m =>
      obtain ⟨a, x, rfl, hT, hx⟩ := id hc
      refine c_ixT hT 0 rfl rfl ?_
      obtain ⟨bb, am⟩ := m
      cases bb with
      | true =>
        walk_at "go"
        refine c_newT (by simp) fun u H1 nu s1 e1 => ?_
        walk_at "go"
        refine ⟨u, [.ref a], [(true, am)], p, n, rfl, .inl (.inl e1), All2.one (MvAt.mono s1 hc), hp, Nat.le_trans hn (by decide), ?_⟩
        exact q H1 s1
      | false =>
        walk_at "go"
        refine c_newT (by simp) fun u H1 nu s1 e1 => ?_
        walk_at "go"
        refine ⟨u, [.ref a], [(false, am)], p, n, rfl, .inl (.inl e1), All2.one (MvAt.mono s1 hc), hp, Nat.le_trans hn (by decide), ?_⟩
        exact q H1 s1
    | rep t ms =>
      obtain ⟨a, b, us, rfl, hT, hU, hA, h1, h2, h3⟩ := hc
      refine c_ixT hT 0 rfl rfl ?_
      walk_at "go"
      refine c_ixT hT 1 rfl rfl ?_
      walk_at "go"
      refine c_ixT hT 2 rfl rfl ?_
      walk_at "go"
      exact ⟨t, b, us, ms, p, n, rfl, h1, hU, hA, h3, hp, hn, q⟩
/-! ### programs -/
def pflds (t : Addr) : List (Str × V) := [("commands", V.ref t)]
theorem pflds_put (t : Addr) : putF "commands" (.ref t) [] = pflds t := rfl
theorem pflds_get (t : Addr) : (pflds t).lookup ("commands" : Str) = some (.ref t) := by
  rw [← pflds_put, lookup_putF, if_pos rfl]
/-- a program of these commands stands at a -/
def ProgAt (K : PySem.W.Frag) (C : Addr) (H : Hp) (a : Addr) (cs : List Cmd) : Prop := ∃ dx t us, H a = some (.ins C dx (pflds t)) ∧ SqT K H t us ∧ All2 (CmdAt K H) us cs ∧ cs.length ≤ 1000
theorem ProgAt.mono {C : Addr} {H H' : Hp} {a : Addr} {cs : List Cmd} (s : Same H H') (h : ProgAt K C H a cs) : ProgAt K C H' a cs := by
  obtain ⟨dx, t, us, e, h1, h2, l⟩ := h
  exact ⟨dx, t, us, s _ _ e, same_seqT s h1, h2.imp fun _ _ => CmdAt.mono s, l⟩
def spIsCmd (K : PySem.W.Frag) : Sp := fun vs H Q _ => ∃ v c, vs = [v] ∧ CmdAt K H v c ∧ ∀ H', Same H H' → Q (.bl true) H'
theorem ok_is_command (T : TX K mg) : FnOk P w K mg base CX0 5 T.f_Program_is_command T.fd_Program_is_command pIsCmd (spIsCmd K) := by
  have G_is_step := ok_is_step (P := P) (w := w) (base := base) T
  have G_is_repeat := ok_is_repeat (P := P) (w := w) (base := base) T
  have G_is_name := ok_is_name (P := P) (w := w) (base := base) T
  refine T.F_Program_is_command.ok scIsCmd (fun vs H Q E h => ?_) (fun cdv A outer s H vs Q E hr h => ?_)
  · obtain ⟨v, c, rfl, _⟩ := h
    rfl
  · obtain ⟨v, c, rfl, hc, q⟩ := h
    refine ⟨_, pss_cons (ps_if (PW.pt (pw_or (pt_not (pt_val (pe_callB (callIsi (K := K)) (by rfl) T.isinstance (by decide +kernel) (pa_cons (pv 0) (pa_cons (pe_bltn (v := .ty "tuple") (by rfl) T.tuple (by decide +kernel) rfl) pa_nil))))) (pw_or1 (pt_cmpR op_ne (pe_callB (callLn (K := K)) (by rfl) T.len (by decide +kernel) (pa_cons (pv 0) pa_nil)) (pe_int) (nomark _))))) (pss_one (ps_ret (pcall T.d_is_repeat G_is_repeat (hr.mono (by decide)) (by rfl) pass0 (pa_cons (pv 0) pa_nil)))) (pss_nil))
      (pss_cons (ps_if (PW.pt (pw_and (pt_val (pe_callB (callIsi (K := K)) (by rfl) T.isinstance (by decide +kernel) (pa_cons (pe_ix (ixT (K := K)) (pv 0) (pe_int) (fun _ _ => rfl)) (pa_cons (pe_bltn (v := .ty "str") (by rfl) T.str (by decide +kernel) rfl) pa_nil)))) (pw_and1 (pt_cmpR op_eq (pe_ix (ixT (K := K)) (pv 0) (pe_int) (fun _ _ => rfl)) (pe_str) (nomark _))))) (pss_one (ps_ret (pcall T.d_is_name G_is_name (hr.mono (by decide)) (by rfl) pass0 (pa_cons (pe_ix (ixT (K := K)) (pv 0) (pe_int) (fun _ _ => rfl)) pa_nil)))) (pss_nil))
      (pss_one (ps_ret (pcall T.d_is_step G_is_step (hr.mono (by decide)) (by rfl) pass0 (pa_cons (pv 0) pa_nil))))), ?_⟩
    walk_at "go"
    cases c with
    | dd z =>
      obtain ⟨a, rfl, hT, hz⟩ := hc
      refine c_isi (r := true) (ty_tup hT) (by decide +kernel) ?_
      walk_at "go"
      refine c_lnT hT ?_
      walk_at "go"
      refine c_ixT hT 0 rfl rfl ?_
      walk_at "go"
      refine c_isi (r := true) (ty_str _) (by decide +kernel) ?_
      walk_at "go"
      refine c_ixT hT 0 rfl rfl ?_
      walk_at "go"
      refine c_ixT hT 1 rfl rfl ?_
      walk_at "go"
      exact ⟨z, rfl, hz, q⟩
    | mv m =>
      obtain ⟨a, x, rfl, hT, hx⟩ := id hc
      refine c_isi (r := true) (ty_tup hT) (by decide +kernel) ?_
      walk_at "go"
      refine c_lnT hT ?_
      walk_at "go"
      refine c_ixT hT 0 rfl rfl ?_
      walk_at "go"
      refine c_isi (r := true) (ty_str _) (by decide +kernel) ?_
      walk_at "go"
      refine c_ixT hT 0 rfl rfl ?_
      obtain ⟨bb, am⟩ := m
      cases bb with
      | true =>
        walk_at "go"
        exact ⟨_, _, rfl, hc, q H (Same.refl _)⟩
      | false =>
        walk_at "go"
        exact ⟨_, _, rfl, hc, q H (Same.refl _)⟩
    | rep n ms =>
      obtain ⟨a, b, us, rfl, hT, r⟩ := id hc
      refine c_isi (r := true) (ty_tup hT) (by decide +kernel) ?_
      walk_at "go"
      refine c_lnT hT ?_
      walk_at "go"
      exact ⟨_, n, ms, rfl, hc, q⟩
end
end Und
set_option exponentiation.threshold 4000
namespace Und
open PySem PySem.Spec PyProof.Rows L2
local macro_rules | `(tactic| walk_at "side") => `(tactic| first | decide | omega | exact ⟨by omega, by omega⟩ | (show (0 : Int) < _; omega) | (exact Or.inl ⟨by omega, by omega⟩) | (exact Or.inr ⟨by omega, by omega⟩) | (exact sz (by simp)) | (exact szl (by simp)))
local macro_rules | `(tactic| walk_at "u") => `(tactic| first
  | with_reducible refine c_seq ?_ | with_reducible refine c_next ?_ | with_reducible refine c_yes ?_ | with_reducible refine c_asg ?_ | with_reducible refine c_asg2 ?_ | with_reducible refine c_par ?_ | with_reducible refine c_two ?_ | with_reducible refine c_g ?_ | with_reducible refine c_gsub ?_ | with_reducible refine c_gcons ?_ | with_reducible refine c_gnil ?_ | with_reducible refine c_ret ?_ | with_reducible refine c_drop ?_
  | ((with_reducible refine c_var (v := ?v) ?h ?_); (case h => rfl)) | with_reducible refine c_c ?_ | with_reducible refine c_op ?_ | with_reducible refine c_un ?_ | with_reducible refine c_I0 ?_
  | ((with_reducible refine c_I ?h ?_); (case h => walk_at "side"))
  | ((with_reducible refine c_eq ?h ?_); (case h => rfl)) | ((with_reducible refine c_neq ?h ?_); (case h => rfl)) | with_reducible refine c_test ?_ | with_reducible refine c_B ?_ | with_reducible refine c_bl ?_ | with_reducible refine c_int ?_ | with_reducible refine c_ifs ?_ | with_reducible refine c_ife ?_
  | with_reducible refine c_andV ?_ | with_reducible refine c_orV ?_ | with_reducible refine c_notV ?_ | with_reducible refine c_and ?_ | with_reducible refine c_or ?_ | with_reducible refine c_not ?_
  | with_reducible refine c_call ?_ | with_reducible refine c_cb ?_ | with_reducible refine c_nil ?_ | with_reducible refine c_cons ?_
  | with_reducible refine c_tup ?_ | with_reducible refine c_lst ?_ | with_reducible refine c_sl ?_ | with_reducible refine c_nop ?_ | with_reducible refine c_part ?_ | with_reducible refine c_fld ?_
  | with_reducible refine c_for ?_ | with_reducible refine c_ilist ?_ | with_reducible refine c_itup ?_ | with_reducible refine c_irng1 ?_ | with_reducible refine c_lc ?_
  | with_reducible refine c_m1 ?_ | with_reducible refine c_isS ?_ | with_reducible refine c_chain ?_ | with_reducible refine c_str ?_ | with_reducible refine c_make ?_ | with_reducible refine c_meth ?_ | with_reducible refine c_prop ?_ | with_reducible refine c_sfld ?_ | with_reducible refine c_ienumT ?_ | with_reducible refine iteT ?_ | with_reducible refine iteF ?_ | with_reducible refine iteNT ?_ | with_reducible refine iteNF ?_
  | ((with_reducible refine iteDT ?h ?_); (case h => first | rfl | omega)) | ((with_reducible refine iteDF ?h ?_); (case h => first | omega | (intro z; cases z; done))) | ((with_reducible refine iteNDT ?h ?_); (case h => first | rfl | omega)) | ((with_reducible refine iteNDF ?h ?_); (case h => first | omega | (intro z; cases z; done))))
local macro_rules | `(tactic| walk_at "go") => `(tactic| repeat (walk_at "u"))
local macro_rules | `(tactic| walk_at "u") => `(tactic| first | with_reducible refine c_bm2 ?_ | with_reducible refine c_m0 ?_ | with_reducible refine c_cmeth ?_)
/-! ### is_name of any value -/
section
variable {P : Program} {w : World} {K : PySem.W.Frag} {mg : Str → Option Value} {base : Heap}
/-- b is what is_name answers for v -/
def NmQ (K : PySem.W.Frag) (H : Hp) (v : V) (b : Bool) : Prop := (∃ z : Str, v = .str z ∧ z.length ≤ 1000 ∧ ((IsName z ∧ b = true) ∨ (9 ≤ z.length ∧ b = false) ∨ (z.length ≤ 8 ∧ (Txt.isascii z && (Txt.isalpha z && Txt.islower z)) = false ∧ b = false))) ∨ ∃ t, TyX K H v t ∧ PySem.W.kitOne K t (.type "str") = some false ∧ b = false
theorem NmQ.mono {H H' : Hp} {v : V} {b : Bool} (s : Same H H') (h : NmQ K H v b) : NmQ K H' v b := by
  rcases h with h | ⟨t, h1, h2⟩
  · exact .inl h
  · exact .inr ⟨t, tyx_mono s h1, h2⟩
def spIsNameW (K : PySem.W.Frag) : Sp := fun vs H Q _ => ∃ (v : V) (b : Bool), vs = [v] ∧ NmQ K H v b ∧ Q (.bl b) H
theorem ok_is_nameW (T : TX K mg) : FnOk P w K mg base CX0 1 T.f_is_name T.fd_is_name pIsName (spIsNameW K) := by
  refine T.d_is_name.F.ok scIsName (fun vs H Q E h => ?_) (fun cdv A outer s H vs Q E hr h => ?_)
  · obtain ⟨v, b, rfl, _⟩ := h
    rfl
  · obtain ⟨v, b, rfl, hv, q⟩ := h
    refine ⟨_, pss_cons (ps_if (PW.pt (pw_or (pt_not (pt_val (pe_callB (callIsi (K := K)) (by rfl) T.isinstance (by decide +kernel) (pa_cons (pv 0) (pa_cons (pe_bltn (v := .ty "str") (by rfl) T.str (by decide +kernel) rfl) pa_nil))))) (pw_or1 (pt_cmpR op_gt (pe_callB callLnS (by rfl) T.len (by decide +kernel) (pa_cons (pv 0) pa_nil)) (peGlobI rfl T.mLONGEST_NAME) (nomark _))))) (pss_one (ps_ret (pe_bl))) (pss_nil))
      (pss_one (ps_ret (pe_and (pe_m0 PySem.F.slot_str_isascii PySem.F.type_str_isascii mrAscii (pv 0)) (pe_and (pe_m0 PySem.F.slot_str_isalpha PySem.F.type_str_isalpha mrAlpha (pv 0)) (pe_one (pe_m0 PySem.F.slot_str_islower PySem.F.type_str_islower mrLower (pv 0))))))), ?_⟩
    walk_at "go"
    rcases hv with ⟨z, rfl, hl, hz⟩ | ⟨t, ty, kt, rfl⟩
    · refine c_isi (r := true) (ty_str z) (by decide +kernel) ?_
      walk_at "go"
      refine c_lnS (by omega) ?_
      walk_at "go"
      rcases hz with ⟨hz, rfl⟩ | ⟨h9, rfl⟩ | ⟨h8, hb, rfl⟩
      · have h1 := hz.lo
        have h8 := hz.hi
        walk_at "go"
        refine c_rMB hz.ascii ?_
        walk_at "go"
        refine c_rMB hz.alpha ?_
        walk_at "go"
        refine c_rMB hz.lower ?_
        exact q
      · walk_at "go"
        exact q
      · walk_at "go"
        refine c_rMB rfl ?_
        walk_at "go"
        cases h1 : Txt.isascii z with
        | false =>
          walk_at "go"
          exact q
        | true =>
          walk_at "go"
          refine c_rMB rfl ?_
          walk_at "go"
          cases h2 : Txt.isalpha z with
          | false =>
            walk_at "go"
            exact q
          | true =>
            walk_at "go"
            refine c_rMB rfl ?_
            rw [h1, h2] at hb
            have hb : Txt.islower z = false := hb
            rw [hb]
            exact q
    · refine c_isiN ty kt ?_
      walk_at "go"
      exact q
theorem c_inST {p : Addr} {a : Str} {ns : List Str} {H : Hp} {Q : VK} (e : SqL K H p (ns.map V.str) ∨ SqT K H p (ns.map V.str)) (h : Q (.bl (inV (.str a) (ns.map V.str))) H) : rIn K false (.str a) (.ref p) H Q := by
  refine ⟨p, _, rfl, e, rfl, ?_, ?_⟩
  · rw [List.all_eq_true]
    intro x hx
    obtain ⟨n, _, rfl⟩ := List.mem_map.mp hx
    rfl
  · rw [if_neg Bool.false_ne_true]
    exact h
/-- whether v is one of the names -/
def hasV (v : V) (ns : List Str) : Bool := match v with
  | .str _ => inV v (ns.map V.str)
  | _ => false
theorem hasV_str (z : Str) (ns : List Str) : hasV (.str z) ns = inV (.str z) (ns.map V.str) := rfl
theorem NmQ.str {H : Hp} {v : V} (h : NmQ K H v true) : ∃ z, v = .str z ∧ IsName z := by
  rcases h with ⟨z, rfl, _, ⟨h, _⟩ | ⟨_, h⟩ | ⟨_, _, h⟩⟩ | ⟨_, _, _, h⟩
  · exact ⟨z, rfl, h⟩
  · cases h
  · cases h
  · cases h
theorem NmQ.not {H : Hp} {v : V} {ns : List Str} (h : NmQ K H v false) (hn : ∀ z ∈ ns, IsName z) : hasV v ns = false := by
  cases v with
  | str z =>
    refine inV_names hn fun hz => ?_
    rcases h with ⟨y, e, _, ⟨_, h⟩ | ⟨h9, _⟩ | ⟨_, hb, _⟩⟩ | ⟨t, ty, kt, _⟩
    · cases h
    · cases e
      have := hz.hi
      omega
    · cases e
      rw [hz.ascii, hz.alpha, hz.lower] at hb
      cases hb
    · cases ty with
      | base b =>
        cases b
        have : PySem.W.kitOne K (.type "str") (.type "str") = some true := by
          unfold PySem.W.kitOne
          simp
        rw [this] at kt
        cases kt
  | _ => rfl
/-! ### History.of -/
def spHOf (K : PySem.W.Frag) (C : Addr) : Sp := fun vs H Q _ => ∃ (t : Addr) (ns : List Str), vs = [.ref C, .ref t] ∧ SqT K H t (ns.map V.str) ∧ (∀ z ∈ ns, IsName z) ∧ ns.length ≤ 1000 ∧ ∀ r H', Same H H' → HistAt K C H' r ns [] → Q (.ref r) H'
theorem ok_hof (T : TX K mg) : FnR P w K mg base CX0 5 T.f_History_of (spStar 1 (spHOf K T.C_History)) := by
  have G_History_init := ok_init (P := P) (w := w) (base := base) T
  refine T.F_History_of.ok (ps := ["cls"]) scHOf fun cdv A outer s H vs Q E hr h => ?_
  obtain ⟨t, ns, rfl, hT, hn, hl, q⟩ := h
  refine ⟨_, pss_one (ps_ret (pe_makeL (i := 0) T.mk_History G_History_init (hr.mono (by decide)) rfl (.inl rfl) T.b1_History_init T.v1_History_init pass0 (pa_cons (pv 1) pa_nil))), ?_⟩
  walk_at "go"
  refine c_makeL rfl ?_
  walk_at "go"
  exact c_mkH (fs := []) hT (T.t1_History_init _) hn (fun z hz => nomatch hz) (by simp; omega) (fun r H' s hR => q r H' s hR) rfl
def NmAll (K : PySem.W.Frag) (H : Hp) (xs : List V) : Prop := ∀ v ∈ xs, ∃ b, NmQ K H v b
theorem NmAll.nil {H : Hp} : NmAll K H [] := fun v hv => nomatch hv
theorem NmAll.cons {H : Hp} {v : V} {xs : List V} {b : Bool} (h : NmQ K H v b) (t : NmAll K H xs) : NmAll K H (v :: xs) := fun u hu => by
  rcases List.mem_cons.mp hu with rfl | hu
  · exact ⟨b, h⟩
  · exact t u hu
theorem NmAll.app {H : Hp} {xs ys : List V} (h : NmAll K H xs) (g : NmAll K H ys) : NmAll K H (xs ++ ys) := fun u hu => by
  rcases List.mem_append.mp hu with hu | hu
  · exact h u hu
  · exact g u hu
theorem NmAll.mono {H H' : Hp} {xs : List V} (s : Same H H') (h : NmAll K H xs) : NmAll K H' xs := fun u hu => by
  obtain ⟨b, hb⟩ := h u hu
  exact ⟨b, hb.mono s⟩
theorem nm_s {H : Hp} {z : Str} (h : nameB z = true) : NmQ K H (.str z) true := .inl ⟨z, rfl, Nat.le_trans (name_of h).hi (by decide), .inl ⟨name_of h, rfl⟩⟩
theorem nm_n {H : Hp} {z : Str} (h : z.length ≤ 8) (e : (Txt.isascii z && (Txt.isalpha z && Txt.islower z)) = false) : NmQ K H (.str z) false := .inl ⟨z, rfl, by omega, .inr (.inr ⟨h, e, rfl⟩)⟩
theorem nm_t {H : Hp} {v : V} {a : String} (ty : TyX K H v (.type a)) (e : kitB a "str" = some false) : NmQ K H v false := .inr ⟨_, ty, kit_ty e, rfl⟩
theorem ty_lst {H : Hp} {a : Addr} {xs : List V} (h : H a = some (.lst xs)) : TyX K H (.ref a) (.type "list") := .base (.lst h)
theorem ty_dK {H : Hp} {a : Addr} {kvs : List (Key × V)} (h : H a = some (.dK kvs)) : TyX K H (.ref a) (.type "dict") := .base (.dK h)
theorem ty_ins {H : Hp} {C a dx : Addr} {fs : List (Str × V)} (c : C8.InsC K C) (h : H a = some (.ins C dx fs)) : TyX K H (.ref a) (.ref C) := .base (TyOf.ins h c.cl c.ha c.hn c.htk c.hm)
theorem nm_x {H : Hp} {z : Str} (h : IsName z) : ∃ b, NmQ K H (.str (z ++ Str.ofString "x")) b := by
  have l1 : (Str.ofString "x").length = 1 := by decide +kernel
  have hl : (z ++ Str.ofString "x").length = z.length + 1 := by rw [PySem.Str.length_append, l1]
  have h8 := h.hi
  have hlo := h.lo
  by_cases e : z.length = 8
  · exact ⟨false, .inl ⟨_, rfl, by omega, .inr (.inl ⟨by omega, rfl⟩)⟩⟩
  · refine ⟨true, .inl ⟨_, rfl, by omega, .inl ⟨⟨by omega, by omega, fun c hc => ?_⟩, rfl⟩⟩⟩
    rw [PySem.Str.cps_append, Array.toList_append] at hc
    rcases List.mem_append.mp hc with hc | hc
    · exact h.low c hc
    · have : c = 120 := by
        have e : (Str.ofString "x").cps.toList = [120] := by decide +kernel
        rw [e] at hc
        simpa using hc
      omega
/-- values that are none of C's -/
def OthAll (K : PySem.W.Frag) (C : Addr) (H : Hp) (xs : List V) : Prop := ∀ v ∈ xs, ∃ t, TyX K H v t ∧ PySem.W.kitOne K t (.ref C) = some false
theorem OthAll.nil {C : Addr} {H : Hp} : OthAll K C H [] := fun v hv => nomatch hv
theorem OthAll.cons {C : Addr} {H : Hp} {v : V} {xs : List V} {t : Value} (h : TyX K H v t) (k : PySem.W.kitOne K t (.ref C) = some false) (g : OthAll K C H xs) : OthAll K C H (v :: xs) := fun u hu => by
  rcases List.mem_cons.mp hu with rfl | hu
  · exact ⟨t, h, k⟩
  · exact g u hu
theorem OthAll.app {C : Addr} {H : Hp} {xs ys : List V} (h : OthAll K C H xs) (g : OthAll K C H ys) : OthAll K C H (xs ++ ys) := fun u hu => by
  rcases List.mem_append.mp hu with hu | hu
  · exact h u hu
  · exact g u hu
theorem OthAll.mono {C : Addr} {H H' : Hp} {xs : List V} (s : Same H H') (h : OthAll K C H xs) : OthAll K C H' xs := fun u hu => by
  obtain ⟨t, ty, k⟩ := h u hu
  exact ⟨t, tyx_mono s ty, k⟩
theorem c_hof {C : Addr} {H : Hp} {Q : VK} {E : XK} {z : Str} (hz : IsName z) (q : ∀ r H', Same H H' → HistAt K C H' r [z] [] → Q (.ref r) H') : spStar 1 (spHOf K C) [.ref C, .str z] H Q E :=
  ⟨[.ref C], [.str z], rfl, rfl, sz (by simp), fun p np => ⟨p, [z], rfl, .inl (.inl upd_same), fun y hy => by rw [List.mem_singleton.mp hy]; exact hz, by simp, fun r H' s hR => q r H' ((same_new np).trans s) hR⟩⟩
theorem bls_f : ∀ {xs : List V}, (∀ (i : Nat) y, xs[i]? = some y → y = V.bl false) → ∃ bs : List Bool, xs = bs.map V.bl ∧ bs.any id = false
  | [], _ => ⟨[], rfl, rfl⟩
  | x :: r, h => by
    obtain ⟨bs, rfl, hb⟩ := bls_f fun i y e => h (i + 1) y e
    obtain rfl := h 0 x rfl
    exact ⟨false :: bs, rfl, by simpa using hb⟩
end
end Und
namespace Und
open PySem PySem.Spec PyProof.Rows L2
local macro_rules | `(tactic| walk_at "side") => `(tactic| first | decide | omega | exact ⟨by omega, by omega⟩ | (show (0 : Int) < _; omega) | (exact Or.inl ⟨by omega, by omega⟩) | (exact Or.inr ⟨by omega, by omega⟩) | (exact sz (by simp)) | (exact szl (by simp)))
local macro_rules | `(tactic| walk_at "u") => `(tactic| first
  | with_reducible refine c_seq ?_ | with_reducible refine c_next ?_ | with_reducible refine c_yes ?_ | with_reducible refine c_asg ?_ | with_reducible refine c_asg2 ?_ | with_reducible refine c_par ?_ | with_reducible refine c_two ?_ | with_reducible refine c_g ?_ | with_reducible refine c_gsub ?_ | with_reducible refine c_gcons ?_ | with_reducible refine c_gnil ?_ | with_reducible refine c_ret ?_ | with_reducible refine c_drop ?_
  | ((with_reducible refine c_var (v := ?v) ?h ?_); (case h => rfl)) | with_reducible refine c_c ?_ | with_reducible refine c_op ?_ | with_reducible refine c_un ?_ | with_reducible refine c_I0 ?_
  | ((with_reducible refine c_I ?h ?_); (case h => walk_at "side"))
  | ((with_reducible refine c_eq ?h ?_); (case h => rfl)) | ((with_reducible refine c_neq ?h ?_); (case h => rfl)) | with_reducible refine c_test ?_ | with_reducible refine c_B ?_ | with_reducible refine c_bl ?_ | with_reducible refine c_int ?_ | with_reducible refine c_ifs ?_ | with_reducible refine c_ife ?_
  | with_reducible refine c_andV ?_ | with_reducible refine c_orV ?_ | with_reducible refine c_notV ?_ | with_reducible refine c_and ?_ | with_reducible refine c_or ?_ | with_reducible refine c_not ?_
  | with_reducible refine c_call ?_ | with_reducible refine c_cb ?_ | with_reducible refine c_nil ?_ | with_reducible refine c_cons ?_
  | with_reducible refine c_tup ?_ | with_reducible refine c_lst ?_ | with_reducible refine c_sl ?_ | with_reducible refine c_nop ?_ | with_reducible refine c_part ?_ | with_reducible refine c_fld ?_
  | with_reducible refine c_for ?_ | with_reducible refine c_ilist ?_ | with_reducible refine c_itup ?_ | with_reducible refine c_irng1 ?_ | with_reducible refine c_lc ?_
  | with_reducible refine c_m1 ?_ | with_reducible refine c_isS ?_ | with_reducible refine c_chain ?_ | with_reducible refine c_str ?_ | with_reducible refine c_make ?_ | with_reducible refine c_meth ?_ | with_reducible refine c_prop ?_ | with_reducible refine c_sfld ?_ | with_reducible refine c_ienumT ?_ | with_reducible refine iteT ?_ | with_reducible refine iteF ?_ | with_reducible refine iteNT ?_ | with_reducible refine iteNF ?_
  | ((with_reducible refine iteDT ?h ?_); (case h => first | rfl | omega)) | ((with_reducible refine iteDF ?h ?_); (case h => first | omega | (intro z; cases z; done))) | ((with_reducible refine iteNDT ?h ?_); (case h => first | rfl | omega)) | ((with_reducible refine iteNDF ?h ?_); (case h => first | omega | (intro z; cases z; done))))
local macro_rules | `(tactic| walk_at "go") => `(tactic| repeat (walk_at "u"))
local macro_rules | `(tactic| walk_at "u") => `(tactic| with_reducible refine c_rse ?_)
/-! ### commands of a history that are refused -/
section
variable {P : Program} {w : World} {K : PySem.W.Frag} {mg : Str → Option Value} {base : Heap}
/-- b is what is_amount answers for v -/
def AmQ (K : PySem.W.Frag) (H : Hp) (v : V) (b : Bool) : Prop := (v = .non ∧ b = true) ∨ (∃ i, v = .int i ∧ b = decide (1 ≤ i)) ∨ (∃ c, v = .bl c ∧ b = false) ∨ ∃ t, v ≠ .non ∧ TyX K H v t ∧ PySem.W.kitOne K t (.type "int") = some false ∧ b = false
theorem AmQ.mono {H H' : Hp} {v : V} {b : Bool} (s : Same H H') (h : AmQ K H v b) : AmQ K H' v b := by
  rcases h with h | h | h | ⟨t, h1, h2, h3⟩
  · exact .inl h
  · exact .inr (.inl h)
  · exact .inr (.inr (.inl h))
  · exact .inr (.inr (.inr ⟨t, h1, tyx_mono s h2, h3⟩))
def spIsAmW (K : PySem.W.Frag) : Sp := fun vs H Q _ => ∃ (v : V) (b : Bool), vs = [v] ∧ AmQ K H v b ∧ Q (.bl b) H
theorem ok_is_amountW (T : TX K mg) : FnOk P w K mg base CX0 2 T.f_is_amount T.fd_is_amount pIsAm (spIsAmW K) := by
  refine T.d_is_amount.F.ok scIsAm (fun vs H Q E h => ?_) (fun cdv A outer s H vs Q E hr h => ?_)
  · obtain ⟨v, b, rfl, _⟩ := h
    rfl
  · obtain ⟨v, b, rfl, hv, q⟩ := h
    refine ⟨_, pss_one (ps_ret (pe_or (pe_cmpR op_isN (pv 0) (pe_non) (nomark _)) (pe_one (pe_and (pe_callB (callIsi (K := K)) (by rfl) T.isinstance (by decide +kernel) (pa_cons (pv 0) (pa_cons (pe_bltn (v := .ty "int") (by rfl) T.int (by decide +kernel) rfl) pa_nil))) (pe_and (pe_not (pe_callB (callIsi (K := K)) (by rfl) T.isinstance (by decide +kernel) (pa_cons (pv 0) (pa_cons (pe_bltn (v := .ty "bool") (by rfl) T.bool (by decide +kernel) rfl) pa_nil)))) (pe_one (pe_cmpR op_ge (pv 0) (pe_int) (nomark _)))))))), ?_⟩
    walk_at "go"
    refine ⟨rfl, ?_⟩
    rcases hv with ⟨rfl, rfl⟩ | ⟨i, rfl, rfl⟩ | ⟨c, rfl, rfl⟩ | ⟨t, nn, ty, kt, rfl⟩
    · walk_at "go"
      exact q
    · walk_at "go"
      refine c_isi (r := true) (ty_int i) (by decide +kernel) ?_
      walk_at "go"
      refine c_isi (r := false) (ty_int i) (by decide +kernel) ?_
      walk_at "go"
      exact q
    · walk_at "go"
      refine c_isi (r := true) (ty_bl c) (by decide +kernel) ?_
      walk_at "go"
      refine c_isi (r := true) (ty_bl c) (by decide +kernel) ?_
      walk_at "go"
      exact q
    · rw [decide_eq_false nn]
      walk_at "go"
      refine c_isiN ty kt ?_
      walk_at "go"
      exact q
end
end Und
namespace Und
open PySem PySem.Spec PyProof.Rows L2
local macro_rules | `(tactic| walk_at "side") => `(tactic| first | decide | omega | exact ⟨by omega, by omega⟩ | (show (0 : Int) < _; omega) | (exact Or.inl ⟨by omega, by omega⟩) | (exact Or.inr ⟨by omega, by omega⟩) | (exact sz (by simp)) | (exact szl (by simp)))
local macro_rules | `(tactic| walk_at "u") => `(tactic| first
  | with_reducible refine c_seq ?_ | with_reducible refine c_next ?_ | with_reducible refine c_yes ?_ | with_reducible refine c_asg ?_ | with_reducible refine c_asg2 ?_ | with_reducible refine c_par ?_ | with_reducible refine c_two ?_ | with_reducible refine c_g ?_ | with_reducible refine c_gsub ?_ | with_reducible refine c_gcons ?_ | with_reducible refine c_gnil ?_ | with_reducible refine c_ret ?_ | with_reducible refine c_drop ?_
  | ((with_reducible refine c_var (v := ?v) ?h ?_); (case h => rfl)) | with_reducible refine c_c ?_ | with_reducible refine c_op ?_ | with_reducible refine c_un ?_ | with_reducible refine c_I0 ?_
  | ((with_reducible refine c_I ?h ?_); (case h => walk_at "side"))
  | ((with_reducible refine c_eq ?h ?_); (case h => rfl)) | ((with_reducible refine c_neq ?h ?_); (case h => rfl)) | with_reducible refine c_test ?_ | with_reducible refine c_B ?_ | with_reducible refine c_bl ?_ | with_reducible refine c_int ?_ | with_reducible refine c_ifs ?_ | with_reducible refine c_ife ?_
  | with_reducible refine c_andV ?_ | with_reducible refine c_orV ?_ | with_reducible refine c_notV ?_ | with_reducible refine c_and ?_ | with_reducible refine c_or ?_ | with_reducible refine c_not ?_
  | with_reducible refine c_call ?_ | with_reducible refine c_cb ?_ | with_reducible refine c_nil ?_ | with_reducible refine c_cons ?_
  | with_reducible refine c_tup ?_ | with_reducible refine c_lst ?_ | with_reducible refine c_sl ?_ | with_reducible refine c_nop ?_ | with_reducible refine c_part ?_ | with_reducible refine c_fld ?_
  | with_reducible refine c_for ?_ | with_reducible refine c_ilist ?_ | with_reducible refine c_itup ?_ | with_reducible refine c_irng1 ?_ | with_reducible refine c_lc ?_
  | with_reducible refine c_m1 ?_ | with_reducible refine c_isS ?_ | with_reducible refine c_chain ?_ | with_reducible refine c_str ?_ | with_reducible refine c_make ?_ | with_reducible refine c_meth ?_ | with_reducible refine c_prop ?_ | with_reducible refine c_sfld ?_ | with_reducible refine c_ienumT ?_ | with_reducible refine iteT ?_ | with_reducible refine iteF ?_ | with_reducible refine iteNT ?_ | with_reducible refine iteNF ?_
  | ((with_reducible refine iteDT ?h ?_); (case h => first | rfl | omega)) | ((with_reducible refine iteDF ?h ?_); (case h => first | omega | (intro z; cases z; done))) | ((with_reducible refine iteNDT ?h ?_); (case h => first | rfl | omega)) | ((with_reducible refine iteNDF ?h ?_); (case h => first | omega | (intro z; cases z; done))))
local macro_rules | `(tactic| walk_at "go") => `(tactic| repeat (walk_at "u"))
section
variable {P : Program} {w : World} {K : PySem.W.Frag} {mg : Str → Option Value} {base : Heap}
/-- v is judged b as a whole number from 1 on -/
def WhQ (K : PySem.W.Frag) (H : Hp) (v : V) (b : Bool) : Prop := (∃ i, v = .int i ∧ b = decide (1 ≤ i)) ∨ (∃ c, v = .bl c ∧ b = false) ∨ ∃ t, TyX K H v t ∧ PySem.W.kitOne K t (.type "int") = some false ∧ b = false
/-- v is judged b as an undo or a redo -/
def MvQ (K : PySem.W.Frag) (H : Hp) (v : V) (b : Bool) : Prop := (∃ t, TyX K H v t ∧ PySem.W.kitOne K t (.type "tuple") = some false ∧ b = false) ∨
  (∃ (a : Addr) (xs : List V), v = .ref a ∧ SqT K H a xs ∧ xs.length ≠ 2 ∧ b = false) ∨
  (∃ (a : Addr) (x y : V) (t : Value), v = .ref a ∧ SqT K H a [x, y] ∧ TyX K H x t ∧ PySem.W.kitOne K t (.type "str") = some false ∧ b = false) ∨
  (∃ (a : Addr) (z : Str) (y : V), v = .ref a ∧ SqT K H a [.str z, y] ∧ z ≠ "undo" ∧ z ≠ "redo" ∧ b = false) ∨
  ∃ (a : Addr) (z : Str) (y : V), v = .ref a ∧ SqT K H a [.str z, y] ∧ (z = "undo" ∨ z = "redo") ∧ AmQ K H y b
/-- a tuple of three is judged b as a repeat -/
def Rp3 (K : PySem.W.Frag) (H : Hp) (v : V) (b : Bool) : Prop := (∃ (a : Addr) (x y u : V) (t : Value), v = .ref a ∧ SqT K H a [x, y, u] ∧ TyX K H x t ∧ PySem.W.kitOne K t (.type "str") = some false ∧ b = false) ∨
  (∃ (a : Addr) (z : Str) (y u : V), v = .ref a ∧ SqT K H a [.str z, y, u] ∧ z ≠ "repeat" ∧ b = false) ∨
  (∃ (a : Addr) (y u : V), v = .ref a ∧ SqT K H a [.str "repeat", y, u] ∧ WhQ K H y false ∧ b = false) ∨
  (∃ (a : Addr) (y u : V) (t : Value), v = .ref a ∧ SqT K H a [.str "repeat", y, u] ∧ WhQ K H y true ∧ TyX K H u t ∧ PySem.W.kitOne K t (.type "tuple") = some false ∧ b = false) ∨
  ∃ (a c : Addr) (y : V) (us : List V) (bs : List Bool), v = .ref a ∧ SqT K H a [.str "repeat", y, .ref c] ∧ WhQ K H y true ∧ SqT K H c us ∧ us.length ≤ 1000 ∧ All2 (MvQ K H) us bs ∧ b = (decide (0 < us.length) && bs.all id)
/-- v is judged b as a repeat -/
def RpQ (K : PySem.W.Frag) (H : Hp) (v : V) (b : Bool) : Prop := (∃ t, TyX K H v t ∧ PySem.W.kitOne K t (.type "tuple") = some false ∧ b = false) ∨
  (∃ (a : Addr) (xs : List V), v = .ref a ∧ SqT K H a xs ∧ xs.length ≠ 3 ∧ b = false) ∨ Rp3 K H v b
/-- v is judged b as a command -/
def CmQ (K : PySem.W.Frag) (H : Hp) (v : V) (b : Bool) : Prop := (∃ (a : Addr) (y : V), v = .ref a ∧ SqT K H a [.str "do", y] ∧ NmQ K H y b) ∨
  (∃ (a : Addr) (z : Str) (y : V), v = .ref a ∧ SqT K H a [.str z, y] ∧ z ≠ "do" ∧ (z = "repeat" → b = false) ∧ MvQ K H v b) ∨
  (∃ (a : Addr) (x y : V) (t : Value), v = .ref a ∧ SqT K H a [x, y] ∧ TyX K H x t ∧ PySem.W.kitOne K t (.type "str") = some false ∧ b = false) ∨
  (∃ t, TyX K H v t ∧ PySem.W.kitOne K t (.type "tuple") = some false ∧ b = false) ∨
  (∃ (a : Addr) (xs : List V), v = .ref a ∧ SqT K H a xs ∧ xs.length ≠ 2 ∧ xs.length ≠ 3 ∧ (xs = [] ∨ ∃ x r, xs = x :: r ∧ ((∃ z, x = .str z) ∨ ∃ t, TyX K H x t ∧ PySem.W.kitOne K t (.type "str") = some false)) ∧ b = false) ∨ Rp3 K H v b
def spIsIntW (K : PySem.W.Frag) : Sp := fun vs H Q _ => ∃ (v : V) (b : Bool), vs = [v, .int 1] ∧ WhQ K H v b ∧ Q (.bl b) H
theorem ok_is_integerW (T : TX K mg) : FnOk P w K mg base CX0 1 T.f_is_integer T.fd_is_integer pIsInt (spIsIntW K) := by
  refine T.d_is_integer.F.ok scIsInt (fun vs H Q E h => ?_) (fun cdv A outer s H vs Q E hr h => ?_)
  · obtain ⟨v, b, rfl, _⟩ := h
    rfl
  · obtain ⟨v, b, rfl, hv, q⟩ := h
    refine ⟨_, pss_one (ps_ret (pe_and (pe_callB (callIsi (K := K)) (by rfl) T.isinstance (by decide +kernel) (pa_cons (pv 0) (pa_cons (pe_bltn (v := .ty "int") (by rfl) T.int (by decide +kernel) rfl) pa_nil))) (pe_and (pe_not (pe_callB (callIsi (K := K)) (by rfl) T.isinstance (by decide +kernel) (pa_cons (pv 0) (pa_cons (pe_bltn (v := .ty "bool") (by rfl) T.bool (by decide +kernel) rfl) pa_nil)))) (pe_one (pe_cmpR op_ge (pv 0) (pv 1) (nomark _)))))), ?_⟩
    walk_at "go"
    rcases hv with ⟨i, rfl, rfl⟩ | ⟨c, rfl, rfl⟩ | ⟨t, ty, kt, rfl⟩
    · refine c_isi (r := true) (ty_int i) (by decide +kernel) ?_
      walk_at "go"
      refine c_isi (r := false) (ty_int i) (by decide +kernel) ?_
      walk_at "go"
      exact q
    · refine c_isi (r := true) (ty_bl c) (by decide +kernel) ?_
      walk_at "go"
      refine c_isi (r := true) (ty_bl c) (by decide +kernel) ?_
      walk_at "go"
      exact q
    · refine c_isiN ty kt ?_
      walk_at "go"
      exact q
def spIsStepW (K : PySem.W.Frag) : Sp := fun vs H Q _ => ∃ (v : V) (b : Bool), vs = [v] ∧ MvQ K H v b ∧ Q (.bl b) H
theorem w_ne {x y : Str} (h : x ≠ y) : decide (V.str x = V.str y) = false := decide_eq_false fun z => h (V.str.inj z)
theorem ok_is_stepW (T : TX K mg) : FnOk P w K mg base CX0 3 T.f_is_step T.fd_is_step pIsStep (spIsStepW K) := by
  have G_is_amount := ok_is_amountW (P := P) (w := w) (base := base) T
  refine T.d_is_step.F.ok scIsStep (fun vs H Q E h => ?_) (fun cdv A outer s H vs Q E hr h => ?_)
  · obtain ⟨v, b, rfl, _⟩ := h
    rfl
  · obtain ⟨v, b, rfl, hm, q⟩ := h
    refine ⟨_, pss_cons (ps_if (PW.pt (pw_or (pt_not (pt_val (pe_callB (callIsi (K := K)) (by rfl) T.isinstance (by decide +kernel) (pa_cons (pv 0) (pa_cons (pe_bltn (v := .ty "tuple") (by rfl) T.tuple (by decide +kernel) rfl) pa_nil))))) (pw_or (pt_cmpR op_ne (pe_callB (callLn (K := K)) (by rfl) T.len (by decide +kernel) (pa_cons (pv 0) pa_nil)) (pe_int) (nomark _)) (pw_or1 (pt_not (pt_val (pe_callB (callIsi (K := K)) (by rfl) T.isinstance (by decide +kernel) (pa_cons (pe_ix (ixT (K := K)) (pv 0) (pe_int) (fun _ _ => rfl)) (pa_cons (pe_bltn (v := .ty "str") (by rfl) T.str (by decide +kernel) rfl) pa_nil))))))))) (pss_one (ps_ret (pe_bl))) (pss_nil))
      (pss_one (ps_ret (pe_and (pe_or (pe_cmpR op_eq (pe_ix (ixT (K := K)) (pv 0) (pe_int) (fun _ _ => rfl)) (pe_str) (nomark _)) (pe_one (pe_cmpR op_eq (pe_ix (ixT (K := K)) (pv 0) (pe_int) (fun _ _ => rfl)) (pe_str) (nomark _)))) (pe_one (pcall T.d_is_amount G_is_amount (hr.mono (by decide)) (by rfl) pass0 (pa_cons (pe_ix (ixT (K := K)) (pv 0) (pe_int) (fun _ _ => rfl)) pa_nil)))))), ?_⟩
    walk_at "go"
    rcases hm with ⟨t, ty, kt, rfl⟩ | ⟨a, xs, rfl, hT, hl, rfl⟩ | ⟨a, x, y, t, rfl, hT, ty, kt, rfl⟩ | ⟨a, z, y, rfl, hT, n1, n2, rfl⟩ | ⟨a, z, y, rfl, hT, hz, hy⟩
    · refine c_isiN ty kt ?_
      walk_at "go"
      exact q
    · refine c_isi (r := true) (ty_tup hT) (by decide +kernel) ?_
      walk_at "go"
      refine c_lnT hT ?_
      walk_at "go"
      rw [decide_eq_false (fun z => hl (by have := V.int.inj z; omega))]
      walk_at "go"
      exact q
    · refine c_isi (r := true) (ty_tup hT) (by decide +kernel) ?_
      walk_at "go"
      refine c_lnT hT ?_
      walk_at "go"
      refine c_ixT hT 0 rfl rfl ?_
      walk_at "go"
      refine c_isiN ty kt ?_
      walk_at "go"
      exact q
    · refine c_isi (r := true) (ty_tup hT) (by decide +kernel) ?_
      walk_at "go"
      refine c_lnT hT ?_
      walk_at "go"
      refine c_ixT hT 0 rfl rfl ?_
      walk_at "go"
      refine c_isi (r := true) (ty_str _) (by decide +kernel) ?_
      walk_at "go"
      refine c_ixT hT 0 rfl rfl ?_
      walk_at "go"
      rw [w_ne n1]
      walk_at "go"
      refine c_ixT hT 0 rfl rfl ?_
      walk_at "go"
      rw [w_ne n2]
      walk_at "go"
      exact q
    · refine c_isi (r := true) (ty_tup hT) (by decide +kernel) ?_
      walk_at "go"
      refine c_lnT hT ?_
      walk_at "go"
      refine c_ixT hT 0 rfl rfl ?_
      walk_at "go"
      refine c_isi (r := true) (ty_str _) (by decide +kernel) ?_
      walk_at "go"
      refine c_ixT hT 0 rfl rfl ?_
      rcases hz with rfl | rfl
      · walk_at "go"
        refine c_ixT hT 1 rfl rfl ?_
        walk_at "go"
        exact ⟨y, b, rfl, hy, q⟩
      · walk_at "go"
        refine c_ixT hT 0 rfl rfl ?_
        walk_at "go"
        refine c_ixT hT 1 rfl rfl ?_
        walk_at "go"
        exact ⟨y, b, rfl, hy, q⟩
end
end Und
namespace Und
open PySem PySem.Spec PyProof.Rows L2
local macro_rules | `(tactic| walk_at "side") => `(tactic| first | decide | omega | exact ⟨by omega, by omega⟩ | (show (0 : Int) < _; omega) | (exact Or.inl ⟨by omega, by omega⟩) | (exact Or.inr ⟨by omega, by omega⟩) | (exact sz (by simp)) | (exact szl (by simp)))
local macro_rules | `(tactic| walk_at "u") => `(tactic| first
  | with_reducible refine c_seq ?_ | with_reducible refine c_next ?_ | with_reducible refine c_yes ?_ | with_reducible refine c_asg ?_ | with_reducible refine c_asg2 ?_ | with_reducible refine c_par ?_ | with_reducible refine c_two ?_ | with_reducible refine c_g ?_ | with_reducible refine c_gsub ?_ | with_reducible refine c_gcons ?_ | with_reducible refine c_gnil ?_ | with_reducible refine c_ret ?_ | with_reducible refine c_drop ?_
  | ((with_reducible refine c_var (v := ?v) ?h ?_); (case h => rfl)) | with_reducible refine c_c ?_ | with_reducible refine c_op ?_ | with_reducible refine c_un ?_ | with_reducible refine c_I0 ?_
  | ((with_reducible refine c_I ?h ?_); (case h => walk_at "side"))
  | ((with_reducible refine c_eq ?h ?_); (case h => rfl)) | ((with_reducible refine c_neq ?h ?_); (case h => rfl)) | with_reducible refine c_test ?_ | with_reducible refine c_B ?_ | with_reducible refine c_bl ?_ | with_reducible refine c_int ?_ | with_reducible refine c_ifs ?_ | with_reducible refine c_ife ?_
  | with_reducible refine c_andV ?_ | with_reducible refine c_orV ?_ | with_reducible refine c_notV ?_ | with_reducible refine c_and ?_ | with_reducible refine c_or ?_ | with_reducible refine c_not ?_
  | with_reducible refine c_call ?_ | with_reducible refine c_cb ?_ | with_reducible refine c_nil ?_ | with_reducible refine c_cons ?_
  | with_reducible refine c_tup ?_ | with_reducible refine c_lst ?_ | with_reducible refine c_sl ?_ | with_reducible refine c_nop ?_ | with_reducible refine c_part ?_ | with_reducible refine c_fld ?_
  | with_reducible refine c_for ?_ | with_reducible refine c_ilist ?_ | with_reducible refine c_itup ?_ | with_reducible refine c_irng1 ?_ | with_reducible refine c_lc ?_
  | with_reducible refine c_m1 ?_ | with_reducible refine c_isS ?_ | with_reducible refine c_chain ?_ | with_reducible refine c_str ?_ | with_reducible refine c_make ?_ | with_reducible refine c_meth ?_ | with_reducible refine c_prop ?_ | with_reducible refine c_sfld ?_ | with_reducible refine c_ienumT ?_ | with_reducible refine iteT ?_ | with_reducible refine iteF ?_ | with_reducible refine iteNT ?_ | with_reducible refine iteNF ?_
  | ((with_reducible refine iteDT ?h ?_); (case h => first | rfl | omega)) | ((with_reducible refine iteDF ?h ?_); (case h => first | omega | (intro z; cases z; done))) | ((with_reducible refine iteNDT ?h ?_); (case h => first | rfl | omega)) | ((with_reducible refine iteNDF ?h ?_); (case h => first | omega | (intro z; cases z; done))))
local macro_rules | `(tactic| walk_at "go") => `(tactic| repeat (walk_at "u"))
section
variable {P : Program} {w : World} {K : PySem.W.Frag} {mg : Str → Option Value} {base : Heap}
theorem AmQ.whole {H : Hp} {v : V} {b : Bool} (h : AmQ K H v b) : v = .non ∧ b = true ∨ v ≠ .non ∧ WhQ K H v b := by
  rcases h with h | ⟨i, rfl, h⟩ | ⟨c, rfl, h⟩ | ⟨t, h1, h2, h3, h4⟩
  · exact .inl h
  · exact .inr ⟨(by intro z; cases z), .inl ⟨i, rfl, h⟩⟩
  · exact .inr ⟨(by intro z; cases z), .inr (.inl ⟨c, rfl, h⟩)⟩
  · exact .inr ⟨h1, .inr (.inr ⟨t, h2, h3, h4⟩)⟩
theorem WhQ.mono {H H' : Hp} {v : V} {b : Bool} (s : Same H H') (h : WhQ K H v b) : WhQ K H' v b := by
  rcases h with h | h | ⟨t, h1, h2⟩
  · exact .inl h
  · exact .inr (.inl h)
  · exact .inr (.inr ⟨t, tyx_mono s h1, h2⟩)
theorem MvQ.mono {H H' : Hp} {v : V} {b : Bool} (s : Same H H') (h : MvQ K H v b) : MvQ K H' v b := by
  rcases h with ⟨t, ty, r⟩ | ⟨a, xs, e, hT, r⟩ | ⟨a, x, y, t, e, hT, ty, r⟩ | ⟨a, z, y, e, hT, r⟩ | ⟨a, z, y, e, hT, hz, hy⟩
  · exact .inl ⟨t, tyx_mono s ty, r⟩
  · exact .inr (.inl ⟨a, xs, e, same_seqT s hT, r⟩)
  · exact .inr (.inr (.inl ⟨a, x, y, t, e, same_seqT s hT, tyx_mono s ty, r⟩))
  · exact .inr (.inr (.inr (.inl ⟨a, z, y, e, same_seqT s hT, r⟩)))
  · exact .inr (.inr (.inr (.inr ⟨a, z, y, e, same_seqT s hT, hz, hy.mono s⟩)))
theorem bls_as {xs : List V} {bs : List Bool} (l : xs.length = bs.length) (r : ∀ (i : Nat) (y : V), xs[i]? = some y → ∃ b, bs[i]? = some b ∧ y = V.bl b) : xs = bs.map V.bl := by
  refine List.ext_getElem? fun i => ?_
  rw [List.getElem?_map]
  cases e : xs[i]? with
  | none =>
    rw [List.getElem?_eq_none_iff] at e
    rw [List.getElem?_eq_none_iff.mpr (by omega)]
    rfl
  | some y =>
    obtain ⟨b, hb, rfl⟩ := r i y e
    rw [hb]
    rfl
theorem Rp3.at {H : Hp} {v : V} {b : Bool} (h : Rp3 K H v b) : ∃ a xs, v = .ref a ∧ SqT K H a xs ∧ xs.length = 3 := by
  rcases h with ⟨a, x, y, u, t, e, hT, _⟩ | ⟨a, z, y, u, e, hT, _⟩ | ⟨a, y, u, e, hT, _⟩ | ⟨a, y, u, t, e, hT, _⟩ | ⟨a, c, y, us, bs, e, hT, _⟩ <;> exact ⟨a, _, e, hT, rfl⟩
def spIsRepW (K : PySem.W.Frag) : Sp := fun vs H Q _ => ∃ (v : V) (b : Bool), vs = [v] ∧ RpQ K H v b ∧ ∀ H', Same H H' → Q (.bl b) H'
theorem ok_is_repeatW (T : TX K mg) : FnOk P w K mg base CX0 4 T.f_is_repeat T.fd_is_repeat pIsRep (spIsRepW K) := by
  have G_is_step := ok_is_stepW (P := P) (w := w) (base := base) T
  have G_is_integer := ok_is_integerW (P := P) (w := w) (base := base) T
  refine T.d_is_repeat.F.ok scIsRep (fun vs H Q E h => ?_) (fun cdv A outer s H vs Q E hr h => ?_)
  · obtain ⟨v, b, rfl, _⟩ := h
    rfl
  · obtain ⟨v, b, rfl, hc, q⟩ := h
    have q0 := q H (Same.refl _)
    refine ⟨_, pss_cons (ps_if (PW.pt (pw_or (pt_not (pt_val (pe_callB (callIsi (K := K)) (by rfl) T.isinstance (by decide +kernel) (pa_cons (pv 0) (pa_cons (pe_bltn (v := .ty "tuple") (by rfl) T.tuple (by decide +kernel) rfl) pa_nil))))) (pw_or (pt_cmpR op_ne (pe_callB (callLn (K := K)) (by rfl) T.len (by decide +kernel) (pa_cons (pv 0) pa_nil)) (pe_int) (nomark _)) (pw_or1 (pt_not (pt_val (pe_callB (callIsi (K := K)) (by rfl) T.isinstance (by decide +kernel) (pa_cons (pe_ix (ixT (K := K)) (pv 0) (pe_int) (fun _ _ => rfl)) (pa_cons (pe_bltn (v := .ty "str") (by rfl) T.str (by decide +kernel) rfl) pa_nil))))))))) (pss_one (ps_ret (pe_bl))) (pss_nil))
      (pss_cons (ps_asg (pv 0) (pgTup (K := K) (n := 3) (by rfl) (pgs_cons (pg_name (i := 1) scIsRep.nd rfl (.inl rfl)) (pgs_cons (pg_name (i := 2) scIsRep.nd rfl (.inl rfl)) (pgs_cons (pg_name (i := 3) scIsRep.nd rfl (.inl rfl)) pgs_nil)))))
      (pss_cons (ps_if (PW.pt (pw_or (pt_cmpR op_ne (pv 1) (pe_str) (nomark _)) (pw_or (pt_not (pt_val (pcall T.d_is_integer G_is_integer (hr.mono (by decide)) (by rfl) pass0 (pa_cons (pv 2) (pa_cons (pe_int) pa_nil))))) (pw_or1 (pt_not (pt_val (pe_callB (callIsi (K := K)) (by rfl) T.isinstance (by decide +kernel) (pa_cons (pv 3) (pa_cons (pe_bltn (v := .ty "tuple") (by rfl) T.tuple (by decide +kernel) rfl) pa_nil))))))))) (pss_one (ps_ret (pe_bl))) (pss_nil))
      (pss_one (ps_ret (pe_and (pe_cmpR op_gt (pe_callB (callLn (K := K)) (by rfl) T.len (by decide +kernel) (pa_cons (pv 3) pa_nil)) (pe_int) (nomark _)) (pe_one (pe_callB (crAll (K := K) rfl) (by rfl) T.all (by decide +kernel) (pa_cons (pe_lc (own := [("step", 4)]) (g := gName 4) (tt := tYes) (by rfl) scIsRep.nd (piTup (K := K) (pv 3)) (blkOk_by (own := [("step", 4)]) (N := nIsRep) (sc := defScope sIsRep) (by decide +kernel)) (fun _ _ _ _ _ => pg_name (i := 4) scIsRep.nd rfl (.inl rfl)) (fun _ _ _ _ _ => pts_nil) (fun _ _ _ _ _ => pcall T.d_is_step G_is_step (hr.mono (by decide)) (by rfl) pass0 (pa_cons (pv 4) pa_nil))) pa_nil)))))))), ?_⟩
    walk_at "go"
    rcases hc with ⟨t, ty, kt, rfl⟩ | ⟨a, xs, rfl, hT, hl, rfl⟩ | ⟨a, x, y, u, t, rfl, hT, ty, kt, rfl⟩ | ⟨a, z, y, u, rfl, hT, n1, rfl⟩ | ⟨a, y, u, rfl, hT, hy, rfl⟩ | ⟨a, y, u, t, rfl, hT, hy, ty, kt, rfl⟩ | ⟨a, c, y, us, bs, rfl, hT, hy, hU, hul, hA, rfl⟩
    · refine c_isiN ty kt ?_
      walk_at "go"
      exact q0
    · refine c_isi (r := true) (ty_tup hT) (by decide +kernel) ?_
      walk_at "go"
      refine c_lnT hT ?_
      walk_at "go"
      rw [decide_eq_false (fun z => hl (by have := V.int.inj z; omega))]
      walk_at "go"
      exact q0
    · refine c_isi (r := true) (ty_tup hT) (by decide +kernel) ?_
      walk_at "go"
      refine c_lnT hT ?_
      walk_at "go"
      refine c_ixT hT 0 rfl rfl ?_
      walk_at "go"
      refine c_isiN ty kt ?_
      walk_at "go"
      exact q0
    · refine c_isi (r := true) (ty_tup hT) (by decide +kernel) ?_
      walk_at "go"
      refine c_lnT hT ?_
      walk_at "go"
      refine c_ixT hT 0 rfl rfl ?_
      walk_at "go"
      refine c_isi (r := true) (ty_str _) (by decide +kernel) ?_
      walk_at "go"
      refine c_gtup hT rfl ?_
      walk_at "go"
      rw [w_ne n1]
      walk_at "go"
      exact q0
    · refine c_isi (r := true) (ty_tup hT) (by decide +kernel) ?_
      walk_at "go"
      refine c_lnT hT ?_
      walk_at "go"
      refine c_ixT hT 0 rfl rfl ?_
      walk_at "go"
      refine c_isi (r := true) (ty_str _) (by decide +kernel) ?_
      walk_at "go"
      refine c_gtup hT rfl ?_
      walk_at "go"
      refine ⟨y, false, rfl, hy, ?_⟩
      walk_at "go"
      exact q0
    · refine c_isi (r := true) (ty_tup hT) (by decide +kernel) ?_
      walk_at "go"
      refine c_lnT hT ?_
      walk_at "go"
      refine c_ixT hT 0 rfl rfl ?_
      walk_at "go"
      refine c_isi (r := true) (ty_str _) (by decide +kernel) ?_
      walk_at "go"
      refine c_gtup hT rfl ?_
      walk_at "go"
      refine ⟨y, true, rfl, hy, ?_⟩
      walk_at "go"
      refine c_isiN ty kt ?_
      walk_at "go"
      exact q0
    · refine c_isi (r := true) (ty_tup hT) (by decide +kernel) ?_
      walk_at "go"
      refine c_lnT hT ?_
      walk_at "go"
      refine c_ixT hT 0 rfl rfl ?_
      walk_at "go"
      refine c_isi (r := true) (ty_str _) (by decide +kernel) ?_
      walk_at "go"
      refine c_gtup hT rfl ?_
      walk_at "go"
      refine ⟨y, true, rfl, hy, ?_⟩
      walk_at "go"
      refine c_isi (r := true) (ty_tup hU) (by decide +kernel) ?_
      walk_at "go"
      refine c_lnT hU ?_
      walk_at "go"
      by_cases h0 : us.length = 0
      · rw [decide_eq_false (by omega)]
        walk_at "go"
        rw [decide_eq_false (by omega)] at q
        exact q H (Same.refl _)
      · rw [decide_eq_true (by omega : (0 : Int) < (us.length : Int))]
        walk_at "go"
        rw [decide_eq_true (by omega : 0 < us.length), Bool.true_and] at q
        have hl := hA.1
        refine ⟨c, rfl, ⟨us, hU⟩, fun D nD => ?_⟩
        refine lc_tp (fun i v => ∃ b, bs[i]? = some b ∧ v = V.bl b) nD (by omega) hU (fun _ => rfl) (fun i x H5 Q' hi s5 k => ?_) (fun H5 xs s5 e5 l r => ?_)
        · obtain ⟨m, em, hm⟩ := hA.get hi
          walk_at "go"
          exact ⟨x, m, rfl, hm.mono s5, k _ _ (Same.refl _) ⟨m, em, rfl⟩⟩
        · obtain rfl := bls_as (by omega) r
          exact c_all (.inl (.inl e5)) (q H5 s5)
def spIsCmdW (K : PySem.W.Frag) : Sp := fun vs H Q _ => ∃ (v : V) (b : Bool), vs = [v] ∧ CmQ K H v b ∧ ∀ H', Same H H' → Q (.bl b) H'
theorem ok_is_commandW (T : TX K mg) : FnOk P w K mg base CX0 5 T.f_Program_is_command T.fd_Program_is_command pIsCmd (spIsCmdW K) := by
  have G_is_step := ok_is_stepW (P := P) (w := w) (base := base) T
  have G_is_repeat := ok_is_repeatW (P := P) (w := w) (base := base) T
  have G_is_name := ok_is_nameW (P := P) (w := w) (base := base) T
  refine T.F_Program_is_command.ok scIsCmd (fun vs H Q E h => ?_) (fun cdv A outer s H vs Q E hr h => ?_)
  · obtain ⟨v, b, rfl, _⟩ := h
    rfl
  · obtain ⟨v, b, rfl, hc, q⟩ := h
    have q0 := q H (Same.refl _)
    refine ⟨_, pss_cons (ps_if (PW.pt (pw_or (pt_not (pt_val (pe_callB (callIsi (K := K)) (by rfl) T.isinstance (by decide +kernel) (pa_cons (pv 0) (pa_cons (pe_bltn (v := .ty "tuple") (by rfl) T.tuple (by decide +kernel) rfl) pa_nil))))) (pw_or1 (pt_cmpR op_ne (pe_callB (callLn (K := K)) (by rfl) T.len (by decide +kernel) (pa_cons (pv 0) pa_nil)) (pe_int) (nomark _))))) (pss_one (ps_ret (pcall T.d_is_repeat G_is_repeat (hr.mono (by decide)) (by rfl) pass0 (pa_cons (pv 0) pa_nil)))) (pss_nil))
      (pss_cons (ps_if (PW.pt (pw_and (pt_val (pe_callB (callIsi (K := K)) (by rfl) T.isinstance (by decide +kernel) (pa_cons (pe_ix (ixT (K := K)) (pv 0) (pe_int) (fun _ _ => rfl)) (pa_cons (pe_bltn (v := .ty "str") (by rfl) T.str (by decide +kernel) rfl) pa_nil)))) (pw_and1 (pt_cmpR op_eq (pe_ix (ixT (K := K)) (pv 0) (pe_int) (fun _ _ => rfl)) (pe_str) (nomark _))))) (pss_one (ps_ret (pcall T.d_is_name G_is_name (hr.mono (by decide)) (by rfl) pass0 (pa_cons (pe_ix (ixT (K := K)) (pv 0) (pe_int) (fun _ _ => rfl)) pa_nil)))) (pss_nil))
      (pss_one (ps_ret (pcall T.d_is_step G_is_step (hr.mono (by decide)) (by rfl) pass0 (pa_cons (pv 0) pa_nil))))), ?_⟩
    walk_at "go"
    rcases hc with ⟨a, y, rfl, hT, hy⟩ | ⟨a, z, y, rfl, hT, nz, _, hm⟩ | ⟨a, x, y, t, rfl, hT, ty, kt, rfl⟩ | ⟨t, ty, kt, rfl⟩ | ⟨a, xs, rfl, hT, hl, hl3, _, rfl⟩ | hR
    · refine c_isi (r := true) (ty_tup hT) (by decide +kernel) ?_
      walk_at "go"
      refine c_lnT hT ?_
      walk_at "go"
      refine c_ixT hT 0 rfl rfl ?_
      walk_at "go"
      refine c_isi (r := true) (ty_str _) (by decide +kernel) ?_
      walk_at "go"
      refine c_ixT hT 0 rfl rfl ?_
      walk_at "go"
      refine c_ixT hT 1 rfl rfl ?_
      walk_at "go"
      exact ⟨y, b, rfl, hy, q0⟩
    · refine c_isi (r := true) (ty_tup hT) (by decide +kernel) ?_
      walk_at "go"
      refine c_lnT hT ?_
      walk_at "go"
      refine c_ixT hT 0 rfl rfl ?_
      walk_at "go"
      refine c_isi (r := true) (ty_str _) (by decide +kernel) ?_
      walk_at "go"
      refine c_ixT hT 0 rfl rfl ?_
      walk_at "go"
      rw [w_ne nz]
      walk_at "go"
      exact ⟨.ref a, b, rfl, hm, q0⟩
    · refine c_isi (r := true) (ty_tup hT) (by decide +kernel) ?_
      walk_at "go"
      refine c_lnT hT ?_
      walk_at "go"
      refine c_ixT hT 0 rfl rfl ?_
      walk_at "go"
      refine c_isiN ty kt ?_
      walk_at "go"
      exact ⟨.ref a, false, rfl, .inr (.inr (.inl ⟨a, x, y, t, rfl, hT, ty, kt, rfl⟩)), q0⟩
    · refine c_isiN ty kt ?_
      walk_at "go"
      exact ⟨v, false, rfl, .inl ⟨t, ty, kt, rfl⟩, q⟩
    · refine c_isi (r := true) (ty_tup hT) (by decide +kernel) ?_
      walk_at "go"
      refine c_lnT hT ?_
      walk_at "go"
      rw [decide_eq_false (fun z => hl (by have := V.int.inj z; omega))]
      walk_at "go"
      exact ⟨.ref a, false, rfl, .inr (.inl ⟨a, xs, rfl, hT, hl3, rfl⟩), q⟩
    · obtain ⟨a, xs, rfl, hT, hl⟩ := hR.at
      refine c_isi (r := true) (ty_tup hT) (by decide +kernel) ?_
      walk_at "go"
      refine c_lnT hT ?_
      rw [hl]
      walk_at "go"
      exact ⟨.ref a, b, rfl, .inr (.inr hR), q⟩
end
end Und
namespace Und
open PySem PySem.Spec PyProof.Rows L2
local macro_rules | `(tactic| walk_at "side") => `(tactic| first | decide | omega | exact ⟨by omega, by omega⟩ | (show (0 : Int) < _; omega) | (exact Or.inl ⟨by omega, by omega⟩) | (exact Or.inr ⟨by omega, by omega⟩) | (exact sz (by simp)) | (exact szl (by simp)))
local macro_rules | `(tactic| walk_at "u") => `(tactic| first
  | with_reducible refine c_seq ?_ | with_reducible refine c_next ?_ | with_reducible refine c_yes ?_ | with_reducible refine c_asg ?_ | with_reducible refine c_asg2 ?_ | with_reducible refine c_par ?_ | with_reducible refine c_two ?_ | with_reducible refine c_g ?_ | with_reducible refine c_gsub ?_ | with_reducible refine c_gcons ?_ | with_reducible refine c_gnil ?_ | with_reducible refine c_ret ?_ | with_reducible refine c_drop ?_
  | ((with_reducible refine c_var (v := ?v) ?h ?_); (case h => rfl)) | with_reducible refine c_c ?_ | with_reducible refine c_op ?_ | with_reducible refine c_un ?_ | with_reducible refine c_I0 ?_
  | ((with_reducible refine c_I ?h ?_); (case h => walk_at "side"))
  | ((with_reducible refine c_eq ?h ?_); (case h => rfl)) | ((with_reducible refine c_neq ?h ?_); (case h => rfl)) | with_reducible refine c_test ?_ | with_reducible refine c_B ?_ | with_reducible refine c_bl ?_ | with_reducible refine c_int ?_ | with_reducible refine c_ifs ?_ | with_reducible refine c_ife ?_
  | with_reducible refine c_andV ?_ | with_reducible refine c_orV ?_ | with_reducible refine c_notV ?_ | with_reducible refine c_and ?_ | with_reducible refine c_or ?_ | with_reducible refine c_not ?_
  | with_reducible refine c_call ?_ | with_reducible refine c_cb ?_ | with_reducible refine c_nil ?_ | with_reducible refine c_cons ?_
  | with_reducible refine c_tup ?_ | with_reducible refine c_lst ?_ | with_reducible refine c_sl ?_ | with_reducible refine c_nop ?_ | with_reducible refine c_part ?_ | with_reducible refine c_fld ?_
  | with_reducible refine c_for ?_ | with_reducible refine c_ilist ?_ | with_reducible refine c_itup ?_ | with_reducible refine c_irng1 ?_ | with_reducible refine c_lc ?_
  | with_reducible refine c_m1 ?_ | with_reducible refine c_isS ?_ | with_reducible refine c_chain ?_ | with_reducible refine c_str ?_ | with_reducible refine c_make ?_ | with_reducible refine c_meth ?_ | with_reducible refine c_prop ?_ | with_reducible refine c_sfld ?_ | with_reducible refine c_ienumT ?_ | with_reducible refine iteT ?_ | with_reducible refine iteF ?_ | with_reducible refine iteNT ?_ | with_reducible refine iteNF ?_
  | ((with_reducible refine iteDT ?h ?_); (case h => first | rfl | omega)) | ((with_reducible refine iteDF ?h ?_); (case h => first | omega | (intro z; cases z; done))) | ((with_reducible refine iteNDT ?h ?_); (case h => first | rfl | omega)) | ((with_reducible refine iteNDF ?h ?_); (case h => first | omega | (intro z; cases z; done))))
local macro_rules | `(tactic| walk_at "go") => `(tactic| repeat (walk_at "u"))
section
variable {P : Program} {w : World} {K : PySem.W.Frag} {mg : Str → Option Value} {base : Heap}
theorem abc_mem {c : Nat} : c ∈ (Str.ofString "abcdefghijklmnopqrstuvwxyz").cps.toList ↔ 97 ≤ c ∧ c ≤ 122 := by
  have e : (Str.ofString "abcdefghijklmnopqrstuvwxyz").cps.toList = (List.range 26).map (· + 97) := by decide +kernel
  rw [e]
  simp only [List.mem_map, List.mem_range]
  exact ⟨fun ⟨a, h, e⟩ => by omega, fun h => ⟨c - 97, by omega, by omega⟩⟩
def spWhole (K : PySem.W.Frag) : Sp := fun vs H Q _ => ∃ (v : V) (b : Bool), vs = [v] ∧ WhQ K H v b ∧ Q (.bl b) H
theorem ok_whole (T : TX K mg) : FnOk P w K mg base CX0 1 T.f_law_is_whole T.fd_law_is_whole pLWhole (spWhole K) := by
  refine T.d_law_is_whole.F.ok scLWhole (fun vs H Q E h => ?_) (fun cdv A outer s H vs Q E hr h => ?_)
  · obtain ⟨v, b, rfl, _⟩ := h
    rfl
  · obtain ⟨v, b, rfl, hv, q⟩ := h
    refine ⟨_, pss_one (ps_ret (pe_and (pe_callB (callIsi (K := K)) (by rfl) T.isinstance (by decide +kernel) (pa_cons (pv 0) (pa_cons (pe_bltn (v := .ty "int") (by rfl) T.int (by decide +kernel) rfl) pa_nil))) (pe_and (pe_not (pe_callB (callIsi (K := K)) (by rfl) T.isinstance (by decide +kernel) (pa_cons (pv 0) (pa_cons (pe_bltn (v := .ty "bool") (by rfl) T.bool (by decide +kernel) rfl) pa_nil)))) (pe_one (pe_cmpR op_gt (pv 0) (pe_int) (nomark _)))))), ?_⟩
    walk_at "go"
    rcases hv with ⟨i, rfl, rfl⟩ | ⟨c, rfl, rfl⟩ | ⟨t, ty, kt, rfl⟩
    · refine c_isi (r := true) (ty_int i) (by decide +kernel) ?_
      walk_at "go"
      refine c_isi (r := false) (ty_int i) (by decide +kernel) ?_
      walk_at "go"
      exact q
    · refine c_isi (r := true) (ty_bl c) (by decide +kernel) ?_
      walk_at "go"
      refine c_isi (r := true) (ty_bl c) (by decide +kernel) ?_
      walk_at "go"
      exact q
    · refine c_isiN ty kt ?_
      walk_at "go"
      exact q
def spLCall (K : PySem.W.Frag) : Sp := fun vs H Q _ => ∃ (v : V) (b : Bool), vs = [v] ∧ NmQ K H v b ∧ ∀ H', Same H H' → Q (.bl b) H'
theorem ok_lcall (T : TX K mg) : FnOk P w K mg base CX0 1 T.f_law_is_call T.fd_law_is_call pLCall (spLCall K) := by
  refine T.d_law_is_call.F.ok scLCall (fun vs H Q E h => ?_) (fun cdv A outer s H vs Q E hr h => ?_)
  · obtain ⟨v, b, rfl, _⟩ := h
    rfl
  · obtain ⟨v, b, rfl, hv, q⟩ := h
    have q0 := q H (Same.refl _)
    refine ⟨_, pss_cons (ps_if (PW.pt (pw_or (pt_not (pt_val (pe_callB (callIsi (K := K)) (by rfl) T.isinstance (by decide +kernel) (pa_cons (pv 0) (pa_cons (pe_bltn (v := .ty "str") (by rfl) T.str (by decide +kernel) rfl) pa_nil))))) (pw_or1 (pt_not (pt_chain op_lt op_lt (pe_int) (pe_callB callLnS (by rfl) T.len (by decide +kernel) (pa_cons (pv 0) pa_nil)) (pe_int)))))) (pss_one (ps_ret (pe_bl))) (pss_nil))
      (pss_one (ps_ret (pe_callB (crAll (K := K) rfl) (by rfl) T.all (by decide +kernel) (pa_cons (pe_lc (own := [("_law_sign", 1)]) (g := gName 1) (tt := tYes) (by rfl) scLCall.nd (pi_str (pv 0)) (blkOk_by (own := [("_law_sign", 1)]) (N := nLCall) (sc := defScope sLCall) (by decide +kernel)) (fun _ _ _ _ _ => pg_name (i := 1) scLCall.nd rfl (.inl rfl)) (fun _ _ _ _ _ => pts_nil) (fun _ _ _ _ _ => pe_cmpR op_inS (pv 1) (pe_str) (by rfl))) pa_nil)))), ?_⟩
    walk_at "go"
    rcases hv with ⟨z, rfl, hl, hz⟩ | ⟨t, ty, kt, rfl⟩
    · refine c_isi (r := true) (ty_str z) (by decide +kernel) ?_
      walk_at "go"
      refine c_lnS (by omega) ?_
      walk_at "go"
      by_cases h0 : z.length = 0
      · rw [decide_eq_false (by omega)]
        walk_at "go"
        rcases hz with ⟨hz, _⟩ | ⟨h9, _⟩ | ⟨_, _, rfl⟩
        · have := hz.lo
          omega
        · omega
        · exact q0
      · rw [decide_eq_true (by omega : (0 : Int) < (z.length : Int))]
        walk_at "go"
        by_cases h9 : 9 ≤ z.length
        · rw [decide_eq_false (by omega)]
          walk_at "go"
          rcases hz with ⟨hz, _⟩ | ⟨_, rfl⟩ | ⟨h8, _⟩
          · have := hz.hi
            omega
          · exact q0
          · omega
        · rw [decide_eq_true (by omega : (z.length : Int) < 9)]
          walk_at "go"
          refine ⟨z, rfl, fun D nD => ?_⟩
          refine lc_sg (fun i v => ∃ c, z.cps.toList[i]? = some c ∧ v = V.bl (decide (97 ≤ c ∧ c ≤ 122))) nD (by omega) (fun _ => rfl) (fun i c H5 Q' hi s5 k => ?_) (fun H5 xs s5 e5 l r => ?_)
          · walk_at "go"
            refine ⟨c, _, rfl, rfl, ?_⟩
            rw [show decide (c ∈ (Str.ofString "abcdefghijklmnopqrstuvwxyz").cps.toList) = decide (97 ≤ c ∧ c ≤ 122) from decide_eq_decide.mpr abc_mem]
            exact k _ _ (Same.refl _) ⟨c, hi, rfl⟩
          · have r' : ∀ (i : Nat) (y : V), xs[i]? = some y → ∃ b, (z.cps.toList.map fun c => decide (97 ≤ c ∧ c ≤ 122))[i]? = some b ∧ y = V.bl b := fun i y e => by
              obtain ⟨c, hc, rfl⟩ := r i y e
              exact ⟨_, by rw [List.getElem?_map, hc]; rfl, rfl⟩
            obtain rfl := bls_as (by rw [l, List.length_map]; rfl) r'
            refine c_all (.inl (.inl e5)) ?_
            have eb : (z.cps.toList.map fun c => decide (97 ≤ c ∧ c ≤ 122)).all id = b := by
              rcases hz with ⟨hz, rfl⟩ | ⟨h, _⟩ | ⟨_, hb, rfl⟩
              · rw [List.all_eq_true]
                intro x hx
                obtain ⟨c, hc, rfl⟩ := List.mem_map.mp hx
                exact decide_eq_true (hz.low c hc)
              · omega
              · cases e : (z.cps.toList.map fun c => decide (97 ≤ c ∧ c ≤ 122)).all id with
                | false => rfl
                | true =>
                  rw [List.all_eq_true] at e
                  have nz : IsName z := ⟨by omega, by omega, fun c hc => of_decide_eq_true (e _ (List.mem_map.mpr ⟨c, hc, rfl⟩))⟩
                  rw [nz.ascii, nz.alpha, nz.lower] at hb
                  cases hb
            rw [eb]
            exact q H5 s5
    · refine c_isiN ty kt ?_
      walk_at "go"
      exact q0
def spLMove (K : PySem.W.Frag) : Sp := fun vs H Q _ => ∃ (v : V) (b : Bool), vs = [v] ∧ MvQ K H v b ∧ ∀ H', Same H H' → Q (.bl b) H'
theorem ok_lmove (T : TX K mg) : FnOk P w K mg base CX0 2 T.f_law_is_move T.fd_law_is_move pLMove (spLMove K) := by
  have G_law_is_whole := ok_whole (P := P) (w := w) (base := base) T
  refine T.d_law_is_move.F.ok scLMove (fun vs H Q E h => ?_) (fun cdv A outer s H vs Q E hr h => ?_)
  · obtain ⟨v, b, rfl, _⟩ := h
    rfl
  · obtain ⟨v, b, rfl, hm, q⟩ := h
    have q0 := q H (Same.refl _)
    refine ⟨_, pss_cons (ps_if (PW.pt (pw_or (pt_not (pt_val (pe_callB (callIsi (K := K)) (by rfl) T.isinstance (by decide +kernel) (pa_cons (pv 0) (pa_cons (pe_bltn (v := .ty "tuple") (by rfl) T.tuple (by decide +kernel) rfl) pa_nil))))) (pw_or (pt_cmpR op_ne (pe_callB (callLn (K := K)) (by rfl) T.len (by decide +kernel) (pa_cons (pv 0) pa_nil)) (pe_int) (nomark _)) (pw_or1 (pt_not (pt_val (pe_callB (callIsi (K := K)) (by rfl) T.isinstance (by decide +kernel) (pa_cons (pe_ix (ixT (K := K)) (pv 0) (pe_int) (fun _ _ => rfl)) (pa_cons (pe_bltn (v := .ty "str") (by rfl) T.str (by decide +kernel) rfl) pa_nil))))))))) (pss_one (ps_ret (pe_bl))) (pss_nil))
      (pss_one (ps_ret (pe_and (pe_cmpR (opIn (K := K)) (pe_ix (ixT (K := K)) (pv 0) (pe_int) (fun _ _ => rfl)) (pe_lst (pa_cons (pe_str) (pa_cons (pe_str) pa_nil))) (by rfl)) (pe_one (pe_or (pe_cmpR op_isN (pe_ix (ixT (K := K)) (pv 0) (pe_int) (fun _ _ => rfl)) (pe_non) (nomark _)) (pe_one (pcall T.d_law_is_whole G_law_is_whole (hr.mono (by decide)) (by rfl) pass0 (pa_cons (pe_ix (ixT (K := K)) (pv 0) (pe_int) (fun _ _ => rfl)) pa_nil)))))))), ?_⟩
    walk_at "go"
    rcases hm with ⟨t, ty, kt, rfl⟩ | ⟨a, xs, rfl, hT, hl, rfl⟩ | ⟨a, x, y, t, rfl, hT, ty, kt, rfl⟩ | ⟨a, z, y, rfl, hT, n1, n2, rfl⟩ | ⟨a, z, y, rfl, hT, hz, hy⟩
    · refine c_isiN ty kt ?_
      walk_at "go"
      exact q0
    · refine c_isi (r := true) (ty_tup hT) (by decide +kernel) ?_
      walk_at "go"
      refine c_lnT hT ?_
      walk_at "go"
      rw [decide_eq_false (fun z => hl (by have := V.int.inj z; omega))]
      walk_at "go"
      exact q0
    · refine c_isi (r := true) (ty_tup hT) (by decide +kernel) ?_
      walk_at "go"
      refine c_lnT hT ?_
      walk_at "go"
      refine c_ixT hT 0 rfl rfl ?_
      walk_at "go"
      refine c_isiN ty kt ?_
      walk_at "go"
      exact q0
    · refine c_isi (r := true) (ty_tup hT) (by decide +kernel) ?_
      walk_at "go"
      refine c_lnT hT ?_
      walk_at "go"
      refine c_ixT hT 0 rfl rfl ?_
      walk_at "go"
      refine c_isi (r := true) (ty_str _) (by decide +kernel) ?_
      walk_at "go"
      refine c_ixT hT 0 rfl rfl ?_
      walk_at "go"
      refine c_newL (by simp) fun l H1 _ s1 e1 => ?_
      refine c_inST (ns := ["undo", "redo"]) (.inl (.inl (.inl e1))) ?_
      have en : inV (.str z) ((["undo", "redo"] : List Str).map V.str) = false := by
        unfold inV
        simp [eqV, Ne.symm n1, Ne.symm n2]
      rw [en]
      walk_at "go"
      exact q H1 s1
    · refine c_isi (r := true) (ty_tup hT) (by decide +kernel) ?_
      walk_at "go"
      refine c_lnT hT ?_
      walk_at "go"
      refine c_ixT hT 0 rfl rfl ?_
      walk_at "go"
      refine c_isi (r := true) (ty_str _) (by decide +kernel) ?_
      walk_at "go"
      refine c_ixT hT 0 rfl rfl ?_
      walk_at "go"
      refine c_newL (by simp) fun l H1 _ s1 e1 => ?_
      refine c_inST (ns := ["undo", "redo"]) (.inl (.inl (.inl e1))) ?_
      have en : inV (.str z) ((["undo", "redo"] : List Str).map V.str) = true := by
        rcases hz with rfl | rfl <;> decide +kernel
      rw [en]
      have hT := same_seqT s1 hT
      walk_at "go"
      refine c_ixT hT 1 rfl rfl ?_
      walk_at "go"
      refine ⟨rfl, ?_⟩
      rcases hy.whole with ⟨rfl, rfl⟩ | ⟨ny, hy⟩
      · walk_at "go"
        exact q H1 s1
      · rw [decide_eq_false ny]
        walk_at "go"
        refine c_ixT hT 1 rfl rfl ?_
        walk_at "go"
        exact ⟨y, b, rfl, hy.mono s1, q H1 s1⟩
def spLStep (K : PySem.W.Frag) : Sp := fun vs H Q _ => ∃ (v : V) (b : Bool), vs = [v] ∧ CmQ K H v b ∧ ∀ H', Same H H' → Q (.bl b) H'
theorem ok_lstep (T : TX K mg) : FnOk P w K mg base CX0 3 T.f_law_is_step T.fd_law_is_step pLStep (spLStep K) := by
  have G_law_is_whole := ok_whole (P := P) (w := w) (base := base) T
  have G_law_is_call := ok_lcall (P := P) (w := w) (base := base) T
  have G_law_is_move := ok_lmove (P := P) (w := w) (base := base) T
  refine T.d_law_is_step.F.ok scLStep (fun vs H Q E h => ?_) (fun cdv A outer s H vs Q E hr h => ?_)
  · obtain ⟨v, b, rfl, _⟩ := h
    rfl
  · obtain ⟨v, b, rfl, hc, q⟩ := h
    have q0 := q H (Same.refl _)
    refine ⟨_, pss_cons (ps_if (PW.pt (pw_or (pt_not (pt_val (pe_callB (callIsi (K := K)) (by rfl) T.isinstance (by decide +kernel) (pa_cons (pv 0) (pa_cons (pe_bltn (v := .ty "tuple") (by rfl) T.tuple (by decide +kernel) rfl) pa_nil))))) (pw_or (pt_cmpR op_eq (pe_callB (callLn (K := K)) (by rfl) T.len (by decide +kernel) (pa_cons (pv 0) pa_nil)) (pe_int) (nomark _)) (pw_or1 (pt_not (pt_val (pe_callB (callIsi (K := K)) (by rfl) T.isinstance (by decide +kernel) (pa_cons (pe_ix (ixT (K := K)) (pv 0) (pe_int) (fun _ _ => rfl)) (pa_cons (pe_bltn (v := .ty "str") (by rfl) T.str (by decide +kernel) rfl) pa_nil))))))))) (pss_one (ps_ret (pe_bl))) (pss_nil))
      (pss_cons (ps_if (pt_cmpR op_eq (pe_ix (ixT (K := K)) (pv 0) (pe_int) (fun _ _ => rfl)) (pe_str) (nomark _)) (pss_one (ps_ret (pe_and (pe_cmpR op_eq (pe_callB (callLn (K := K)) (by rfl) T.len (by decide +kernel) (pa_cons (pv 0) pa_nil)) (pe_int) (nomark _)) (pe_one (pcall T.d_law_is_call G_law_is_call (hr.mono (by decide)) (by rfl) pass0 (pa_cons (pe_ix (ixT (K := K)) (pv 0) (pe_int) (fun _ _ => rfl)) pa_nil)))))) (pss_nil))
      (pss_cons (ps_if (pt_cmpR op_ne (pe_ix (ixT (K := K)) (pv 0) (pe_int) (fun _ _ => rfl)) (pe_str) (nomark _)) (pss_one (ps_ret (pcall T.d_law_is_move G_law_is_move (hr.mono (by decide)) (by rfl) pass0 (pa_cons (pv 0) pa_nil)))) (pss_nil))
      (pss_cons (ps_if (PW.pt (pw_or (pt_cmpR op_ne (pe_callB (callLn (K := K)) (by rfl) T.len (by decide +kernel) (pa_cons (pv 0) pa_nil)) (pe_int) (nomark _)) (pw_or (pt_not (pt_val (pcall T.d_law_is_whole G_law_is_whole (hr.mono (by decide)) (by rfl) pass0 (pa_cons (pe_ix (ixT (K := K)) (pv 0) (pe_int) (fun _ _ => rfl)) pa_nil)))) (pw_or1 (pt_not (pt_val (pe_callB (callIsi (K := K)) (by rfl) T.isinstance (by decide +kernel) (pa_cons (pe_ix (ixT (K := K)) (pv 0) (pe_int) (fun _ _ => rfl)) (pa_cons (pe_bltn (v := .ty "tuple") (by rfl) T.tuple (by decide +kernel) rfl) pa_nil))))))))) (pss_one (ps_ret (pe_bl))) (pss_nil))
      (pss_one (ps_ret (pe_and (pe_cmpR op_gt (pe_callB (callLn (K := K)) (by rfl) T.len (by decide +kernel) (pa_cons (pe_ix (ixT (K := K)) (pv 0) (pe_int) (fun _ _ => rfl)) pa_nil)) (pe_int) (nomark _)) (pe_one (pe_callB (crAll (K := K) rfl) (by rfl) T.all (by decide +kernel) (pa_cons (pe_lc (own := [("_law_inner", 1)]) (g := gName 1) (tt := tYes) (by rfl) scLStep.nd (piTup (K := K) (pe_ix (ixT (K := K)) (pv 0) (pe_int) (fun _ _ => rfl))) (blkOk_by (own := [("_law_inner", 1)]) (N := nLStep) (sc := defScope sLStep) (by decide +kernel)) (fun _ _ _ _ _ => pg_name (i := 1) scLStep.nd rfl (.inl rfl)) (fun _ _ _ _ _ => pts_nil) (fun _ _ _ _ _ => pcall T.d_law_is_move G_law_is_move (hr.mono (by decide)) (by rfl) pass0 (pa_cons (pv 1) pa_nil))) pa_nil))))))))), ?_⟩
    walk_at "go"
    rcases hc with ⟨a, y, rfl, hT, hy⟩ | ⟨a, z, y, rfl, hT, nz, hrp, hm⟩ | ⟨a, x, y, t, rfl, hT, ty, kt, rfl⟩ | ⟨t, ty, kt, rfl⟩ | ⟨a, xs, rfl, hT, hl, hl3, hx, rfl⟩ | hR
    · refine c_isi (r := true) (ty_tup hT) (by decide +kernel) ?_
      walk_at "go"
      refine c_lnT hT ?_
      walk_at "go"
      refine c_ixT hT 0 rfl rfl ?_
      walk_at "go"
      refine c_isi (r := true) (ty_str _) (by decide +kernel) ?_
      walk_at "go"
      refine c_ixT hT 0 rfl rfl ?_
      walk_at "go"
      refine c_lnT hT ?_
      walk_at "go"
      refine c_ixT hT 1 rfl rfl ?_
      walk_at "go"
      exact ⟨y, b, rfl, hy, q⟩
    · refine c_isi (r := true) (ty_tup hT) (by decide +kernel) ?_
      walk_at "go"
      refine c_lnT hT ?_
      walk_at "go"
      refine c_ixT hT 0 rfl rfl ?_
      walk_at "go"
      refine c_isi (r := true) (ty_str _) (by decide +kernel) ?_
      walk_at "go"
      refine c_ixT hT 0 rfl rfl ?_
      walk_at "go"
      rw [w_ne nz]
      walk_at "go"
      refine c_ixT hT 0 rfl rfl ?_
      walk_at "go"
      by_cases hz : z = "repeat"
      · subst hz
        obtain rfl := hrp rfl
        walk_at "go"
        refine c_lnT hT ?_
        walk_at "go"
        exact q0
      · rw [w_ne hz]
        walk_at "go"
        exact ⟨.ref a, b, rfl, hm, q⟩
    · refine c_isi (r := true) (ty_tup hT) (by decide +kernel) ?_
      walk_at "go"
      refine c_lnT hT ?_
      walk_at "go"
      refine c_ixT hT 0 rfl rfl ?_
      walk_at "go"
      refine c_isiN ty kt ?_
      walk_at "go"
      exact q0
    · refine c_isiN ty kt ?_
      walk_at "go"
      exact q0
    · refine c_isi (r := true) (ty_tup hT) (by decide +kernel) ?_
      walk_at "go"
      refine c_lnT hT ?_
      walk_at "go"
      have mv : MvQ K H (.ref a) false := .inr (.inl ⟨a, xs, rfl, hT, hl, rfl⟩)
      rcases hx with rfl | ⟨x, r, rfl, hx⟩
      · walk_at "go"
        exact q0
      rw [decide_eq_false (fun z => by have := V.int.inj z; simp at this; omega)]
      walk_at "go"
      refine c_ixT hT 0 rfl rfl ?_
      walk_at "go"
      rcases hx with ⟨z, rfl⟩ | ⟨t, ty, kt⟩
      · refine c_isi (r := true) (ty_str _) (by decide +kernel) ?_
        walk_at "go"
        refine c_ixT hT 0 rfl rfl ?_
        walk_at "go"
        by_cases hd : z = "do"
        · subst hd
          walk_at "go"
          refine c_lnT hT ?_
          walk_at "go"
          rw [decide_eq_false (fun z => hl (by have := V.int.inj z; omega))]
          walk_at "go"
          exact q0
        rw [w_ne hd]
        walk_at "go"
        refine c_ixT hT 0 rfl rfl ?_
        walk_at "go"
        by_cases hz : z = "repeat"
        · subst hz
          walk_at "go"
          refine c_lnT hT ?_
          walk_at "go"
          rw [decide_eq_false (fun z => hl3 (by have := V.int.inj z; omega))]
          walk_at "go"
          exact q0
        · rw [w_ne hz]
          walk_at "go"
          exact ⟨.ref a, false, rfl, mv, q⟩
      · refine c_isiN ty kt ?_
        walk_at "go"
        exact q0
    · rcases hR with ⟨a, x, y, u, t, rfl, hT, ty, kt, rfl⟩ | ⟨a, z, y, u, rfl, hT, nz, rfl⟩ | ⟨a, y, u, rfl, hT, hy, rfl⟩ | ⟨a, y, u, t, rfl, hT, hy, ty, kt, rfl⟩ | ⟨a, c, y, us, bs, rfl, hT, hy, hU, hul, hA, rfl⟩
      · refine c_isi (r := true) (ty_tup hT) (by decide +kernel) ?_
        walk_at "go"
        refine c_lnT hT ?_
        walk_at "go"
        refine c_ixT hT 0 rfl rfl ?_
        walk_at "go"
        refine c_isiN ty kt ?_
        walk_at "go"
        exact q0
      · refine c_isi (r := true) (ty_tup hT) (by decide +kernel) ?_
        walk_at "go"
        refine c_lnT hT ?_
        walk_at "go"
        refine c_ixT hT 0 rfl rfl ?_
        walk_at "go"
        refine c_isi (r := true) (ty_str _) (by decide +kernel) ?_
        walk_at "go"
        refine c_ixT hT 0 rfl rfl ?_
        walk_at "go"
        by_cases hd : z = "do"
        · subst hd
          walk_at "go"
          refine c_lnT hT ?_
          walk_at "go"
          exact q0
        rw [w_ne hd]
        walk_at "go"
        refine c_ixT hT 0 rfl rfl ?_
        walk_at "go"
        rw [w_ne nz]
        walk_at "go"
        exact ⟨.ref a, false, rfl, .inr (.inl ⟨a, _, rfl, hT, by simp, rfl⟩), q⟩
      all_goals
        refine c_isi (r := true) (ty_tup hT) (by decide +kernel) ?_
        walk_at "go"
        refine c_lnT hT ?_
        walk_at "go"
        refine c_ixT hT 0 rfl rfl ?_
        walk_at "go"
        refine c_isi (r := true) (ty_str _) (by decide +kernel) ?_
        walk_at "go"
        refine c_ixT hT 0 rfl rfl ?_
        walk_at "go"
        refine c_ixT hT 0 rfl rfl ?_
        walk_at "go"
        refine c_lnT hT ?_
        walk_at "go"
        refine c_ixT hT 1 rfl rfl ?_
        walk_at "go"
      · refine ⟨y, false, rfl, hy, ?_⟩
        walk_at "go"
        exact q0
      · refine ⟨y, true, rfl, hy, ?_⟩
        walk_at "go"
        refine c_ixT hT 2 rfl rfl ?_
        walk_at "go"
        refine c_isiN ty kt ?_
        walk_at "go"
        exact q0
      · refine ⟨y, true, rfl, hy, ?_⟩
        walk_at "go"
        refine c_ixT hT 2 rfl rfl ?_
        walk_at "go"
        refine c_isi (r := true) (ty_tup hU) (by decide +kernel) ?_
        walk_at "go"
        refine c_ixT hT 2 rfl rfl ?_
        walk_at "go"
        refine c_lnT hU ?_
        walk_at "go"
        by_cases h0 : us.length = 0
        · rw [decide_eq_false (by omega)]
          walk_at "go"
          rw [decide_eq_false (by omega)] at q0
          exact q0
        · rw [decide_eq_true (by omega : (0 : Int) < (us.length : Int))]
          walk_at "go"
          rw [decide_eq_true (by omega : 0 < us.length), Bool.true_and] at q
          have hl := hA.1
          refine c_ixT hT 2 rfl rfl ?_
          refine ⟨c, rfl, ⟨us, hU⟩, fun D nD => ?_⟩
          refine lc_tp (fun i v => ∃ b, bs[i]? = some b ∧ v = V.bl b) nD (by omega) hU (fun _ => rfl) (fun i x H5 Q' hi s5 k => ?_) (fun H5 xs s5 e5 l r => ?_)
          · obtain ⟨m, em, hm⟩ := hA.get hi
            walk_at "go"
            exact ⟨x, m, rfl, hm.mono s5, fun H6 s6 => k _ _ s6 ⟨m, em, rfl⟩⟩
          · obtain rfl := bls_as (by omega) r
            exact c_all (.inl (.inl e5)) (q H5 s5)
end
end Und
/-! values of any kind: data with empty dicts, lists of any length -/
namespace Und
open PySem PySem.Spec PyProof.Rows L2 LamX
open L2H (RoomH)
mutual
inductive Dx (K : PySem.W.Frag) (H : Hp) : V → PyData → Prop
  | non : Dx K H .non .none
  | bl (b : Bool) : Dx K H (.bl b) (.bool b)
  | int (i : Int) : Dx K H (.int i) (.int i)
  | str (x : Str) : Dx K H (.str x) (.str x)
  | lst {a : Addr} {xs : List V} {ds : List PyData} : H a = some (.lst xs) → a ≠ sysModules → DxAll K H xs ds → Dx K H (.ref a) (.list ds)
  | tup {a : Addr} {xs : List V} {ds : List PyData} : SqT K H a xs → DxAll K H xs ds → Dx K H (.ref a) (.tuple ds)
  | emp {a : Addr} : H a = some (.dK []) → Dx K H (.ref a) (.dict [])
inductive DxAll (K : PySem.W.Frag) (H : Hp) : List V → List PyData → Prop
  | nil : DxAll K H [] []
  | cons {v : V} {vs : List V} {d : PyData} {ds : List PyData} : Dx K H v d → DxAll K H vs ds → DxAll K H (v :: vs) (d :: ds)
end
/-- what a value of any kind may stand on stays -/
structure KeepX (K : PySem.W.Frag) (H H' : Hp) : Prop where
  l : ∀ a xs, H a = some (.lst xs) → H' a = some (.lst xs)
  t : ∀ a xs, SqT K H a xs → SqT K H' a xs
  d : ∀ a, H a = some (.dK []) → H' a = some (.dK [])
section
variable {K : PySem.W.Frag} {H H' : Hp}
mutual
theorem Dx.keep (s : KeepX K H H') : ∀ (d : PyData) (v : V), Dx K H v d → Dx K H' v d
  | .none, _, h => by
    cases h
    exact .non
  | .bool b, _, h => by
    cases h
    exact .bl b
  | .int i, _, h => by
    cases h
    exact .int i
  | .str x, _, h => by
    cases h
    exact .str x
  | .list ds, _, h => by
    cases h with
    | lst a c e => exact .lst (s.l _ _ a) c (DxAll.keep s ds _ e)
  | .tuple ds, _, h => by
    cases h with
    | tup a e => exact .tup (s.t _ _ a) (DxAll.keep s ds _ e)
  | .dict ks, _, h => by
    cases h with
    | emp a => exact .emp (s.d _ a)
theorem DxAll.keep (s : KeepX K H H') : ∀ (ds : List PyData) (vs : List V), DxAll K H vs ds → DxAll K H' vs ds
  | [], _, h => by
    cases h
    exact .nil
  | d :: ds, _, h => by
    cases h with
    | cons a b => exact .cons (Dx.keep s d _ a) (DxAll.keep s ds _ b)
end
theorem keepX_same (s : Same H H') : KeepX K H H' := ⟨fun a xs e => s _ _ e, fun a xs e => same_seqT s e, fun a e => s _ _ e⟩
theorem keepX_ext (s : ExtN H H') : KeepX K H H' := ⟨fun a xs e => s _ _ e fun ps z => (by cases z), fun a xs e => ExtN.seqT s e, fun a e => s _ _ e fun ps z => (by cases z)⟩
theorem Dx.mono {v : V} {d : PyData} (s : Same H H') (h : Dx K H v d) : Dx K H' v d := Dx.keep (keepX_same s) d v h
theorem Dx.ext {v : V} {d : PyData} (s : ExtN H H') (h : Dx K H v d) : Dx K H' v d := Dx.keep (keepX_ext s) d v h
theorem Dx.ty {v : V} {d : PyData} (h : Dx K H v d) : TyX K H v (.type (kdD d)) := by
  cases h with
  | non => exact .base .non
  | bl b => exact .base (.bl b)
  | int i => exact .base (.int i)
  | str x => exact .base (.str x)
  | lst e _ _ => exact .base (.lst e)
  | tup e _ => exact ty_tup e
  | emp e => exact .base (.dK e)
theorem DxAll.len : ∀ {vs : List V} {ds : List PyData}, DxAll K H vs ds → vs.length = ds.length
  | _, _, .nil => rfl
  | _, _, .cons _ t => by rw [List.length_cons, List.length_cons, t.len]
theorem DxAll.at : ∀ {vs : List V} {ds : List PyData} {i : Nat} {v : V}, DxAll K H vs ds → vs[i]? = some v → ∃ d, ds[i]? = some d ∧ Dx K H v d
  | _, _, _, _, .nil, e => by simp at e
  | _, _, 0, _, .cons h _, e => ⟨_, rfl, Option.some.inj e ▸ h⟩
  | _, _, i + 1, _, .cons _ t, e => t.at (i := i) e
theorem DxAll.of : ∀ {vs : List V}, (∀ v ∈ vs, ∃ d, Dx K H v d) → ∃ ds, DxAll K H vs ds
  | [], _ => ⟨[], .nil⟩
  | v :: vs, h => by
    obtain ⟨d, hd⟩ := h v List.mem_cons_self
    obtain ⟨ds, hs⟩ := DxAll.of fun u hu => h u (List.mem_cons_of_mem _ hu)
    exact ⟨d :: ds, .cons hd hs⟩
end
/-! ### repr -/
section
variable {X : Cx} {pins : List (Addr × Obj)} {σ : L2.St} {H : Hp} {s : Shared}
mutual
theorem Dx.reads (I : Inv X pins σ H s) : ∀ (d : PyData) (v : V) (u : Value), Dx X.K H v d → RelV v u → ∃ as, Reads s.heap u d as ∧ sysModules ∉ as
  | .none, _, _, h, r => by
    cases h
    cases r
    exact ⟨_, Reads.none, by simp⟩
  | .bool b, _, _, h, r => by
    cases h
    cases r
    exact ⟨_, Reads.bool b, by simp⟩
  | .int i, _, _, h, r => by
    cases h
    obtain ⟨t, rfl⟩ := r
    exact ⟨_, Reads.int i t, by simp⟩
  | .str x, _, _, h, r => by
    cases h
    obtain ⟨t, rfl⟩ := r
    exact ⟨_, Reads.str x t, by simp⟩
  | .list ds, _, _, h, r => by
    cases h with
    | lst hs ne ha =>
      cases r
      obtain ⟨its, rv, ⟨o, n, ho, hc, _, hd⟩, _⟩ := I.list (.inl (.inl hs))
      obtain ⟨as, hr, hn⟩ := DxAll.reads I ds _ its ha rv
      exact ⟨_, Reads.list ho hc hd hr, fun z => (List.mem_cons.mp z).elim (fun q => ne q.symm) hn⟩
  | .tuple ds, _, _, h, r => by
    cases h with
    | tup hs ha =>
      cases r
      obtain ⟨its, rv, ⟨o, ho, hc, n, hd⟩, _⟩ := I.tuple hs
      obtain ⟨as, hr, hn⟩ := DxAll.reads I ds _ its ha rv
      exact ⟨_, Reads.tuple ho hc hd hr, hn⟩
  | .dict ks, _, u, h, r => by
    cases h with
    | emp ha =>
      obtain rfl : u = Value.ref _ := r
      obtain ⟨_, hsm, vs, kv, o, es, ep, ho, hx, hd, _, hp, _⟩ := dk_of I.hok ha
      have nb := beq_eq_false_iff_ne.mp hsm
      cases kv
      have hes : es.toList = [] := by
        generalize es.toList = l at hp
        cases hp
        rfl
      refine ⟨_, Reads.dict ho hx.1 hd (by rw [hes]; exact .nil) (by rw [hes]; exact .nil), fun z => ?_⟩
      simp only [List.cons_append, List.nil_append, List.append_nil, List.mem_cons, List.not_mem_nil, or_false] at z
      exact nb z.symm
theorem DxAll.reads (I : Inv X pins σ H s) : ∀ (ds : List PyData) (vs : List V) (us : List Value), DxAll X.K H vs ds → Vals vs us → ∃ as, ReadsAll s.heap us ds as ∧ sysModules ∉ as
  | [], _, _, h, r => by
    cases h
    cases r
    exact ⟨_, ReadsAll.nil, by simp⟩
  | d :: ds, _, _, h, r => by
    cases h with
    | cons h1 h2 =>
      cases r with
      | cons r1 r2 =>
        obtain ⟨as, q1, n1⟩ := Dx.reads I d _ _ h1 r1
        obtain ⟨bs, q2, n2⟩ := DxAll.reads I ds _ _ h2 r2
        exact ⟨_, ReadsAll.cons q1 q2, fun z => (List.mem_append.mp z).elim n1 n2⟩
end
end
/-- repr of a value of any kind -/
def crReprX (K : PySem.W.Frag) : List V → Hp → VK → Prop := fun xs H Q => crReprA K xs H Q ∨ ∃ (a : Addr) (d : PyData), xs = [.ref a] ∧ Dx K H (.ref a) d ∧ d.showable = true ∧ d.depth ≤ 32 ∧ d.shown.length ≤ sizeLine ∧ Q (.str d.shown) H
theorem crRX {X : Cx} {K : PySem.W.Frag} {k : Nat} (g : Still X.A) (r : RoomH k X.A) (hK : X.K = K := by rfl) : CallR X (.builtin "repr") (crReprX K) := by
  subst hK
  intro pins s σ H xs us Q I v h
  rcases h with h | ⟨a, d, rfl, hd, h1, h3, h4, q⟩
  · exact crRA g r rfl pins s σ H xs us Q I v h
  obtain ⟨u, rfl, ru⟩ := vals1 v
  have un := r.un
  obtain ⟨as, rd, hns⟩ := Dx.reads I d _ u hd ru
  obtain rfl : u = Value.ref a := ru
  exact repr_of_reads' rd h1 (fun _ => hns) g (by omega) (fun _ _ e => e) (fun h' u tk k => ⟨.str d.shown, H, I.kept k, ⟨u, rfl⟩, q⟩) h4
theorem c_reprXE {K : PySem.W.Frag} {v : V} {x : Str} {H : Hp} {Q : VK} (h : Rp K H v x) (q : Q (.str x) H) : crReprX K [v] H Q := .inl (c_reprA h q)
theorem c_reprX {K : PySem.W.Frag} {a : Addr} {d : PyData} {n m : Nat} {H : Hp} {Q : VK} (hd : Dx K H (.ref a) d) (sh : Shw d m) (ln : d.depth ≤ 32) (lm : m ≤ 10000000) (q : Q (.str d.shown) H) : crReprX K [.ref a] H Q :=
  .inr ⟨a, d, rfl, hd, sh.1, ln, Nat.le_trans sh.2 (Nat.le_trans lm (by decide)), q⟩
end Und
/-! values that a text writes out: read as data, without walking each of them -/
namespace Und
open PySem PySem.Spec PyProof.Rows L2 LamX
section
variable {K : PySem.W.Frag}
/-- this reading lays a value with this data, and changes nothing else -/
def LxE (K : PySem.W.Frag) (te : TE) (d : PyData) : Prop := ∀ (σ : L2.St) (H : Hp) (Q : VK), (∀ v H', Same H H' → Dx K (nw H H') v d → Q v H') → te σ H Q
def LxA (K : PySem.W.Frag) (ta : TA) (ds : List PyData) : Prop := ∀ (σ : L2.St) (H : Hp) (Q : List V → Hp → Prop), (∀ vs H', Same H H' → DxAll K (nw H H') vs ds → Q vs H') → ta σ H Q
theorem lx_non : LxE K (tC .non) .none := fun σ H Q h => h _ _ (Same.refl _) .non
theorem lx_bl {b : Bool} : LxE K (tC (.bl b)) (.bool b) := fun σ H Q h => h _ _ (Same.refl _) (.bl b)
theorem lx_int {i : Int} : LxE K (tC (.int i)) (.int i) := fun σ H Q h => h _ _ (Same.refl _) (.int i)
theorem lx_str {x : Str} : LxE K (tC (.str x)) (.str x) := fun σ H Q h => h _ _ (Same.refl _) (.str x)
theorem lx_neg {i : Int} : LxE K (tUn (rU fun i => .int (-i)) (tC (.int i))) (.int (-i)) := fun σ H Q h => ⟨i, rfl, h _ _ (Same.refl _) (.int _)⟩
theorem lx_pow {i j : Int} (c : CPow i j) : LxE K (tOp (rI CPow fun i j => .int (i ^ j.toNat)) (tC (.int i)) (tC (.int j))) (.int (i ^ j.toNat)) := fun σ H Q h => ⟨i, j, rfl, rfl, c, h _ _ (Same.refl _) (.int _)⟩
theorem lx_nil : LxA K tNil [] := fun σ H Q h => h _ _ (Same.refl _) .nil
theorem lx_cons {te : TE} {ta : TA} {d : PyData} {ds : List PyData} (h : LxE K te d) (t : LxA K ta ds) : LxA K (tCons te ta) (d :: ds) := fun σ H Q k =>
  h σ H _ fun v H1 s1 h1 => t σ H1 _ fun vs H2 s2 h2 => k _ _ (s1.trans s2) (.cons (h1.mono (nw_r s2)) (DxAll.keep (keepX_same (nw_l s1)) _ _ h2))
theorem lx_tup {ta : TA} {ds : List PyData} (h : LxA K ta ds) (n : ds.length ≤ 1000) : LxE K (tTup ta) (.tuple ds) := fun σ H Q k =>
  h σ H _ fun vs H1 s1 h1 => c_newT (by have := h1.len; omega) fun p H2 np s2 e2 => k _ _ (s1.trans s2) (.tup (.inl (.inl (nw_at (s1.free np) e2))) (DxAll.keep (keepX_same (nw_r s2)) _ _ h1))
theorem lx_lst {ta : TA} {ds : List PyData} (h : LxA K ta ds) (n : ds.length ≤ 1000) : LxE K (tLstB ta) (.list ds) := fun σ H Q k =>
  h σ H _ fun vs H1 s1 h1 => c_newLB (by have := h1.len; omega) fun p H2 np b s2 e2 => k _ _ (s1.trans s2) (.lst (nw_at (s1.free np) e2) b (DxAll.keep (keepX_same (nw_r s2)) _ _ h1))
theorem lx_dic : LxE K tDNewK (.dict []) := fun σ H Q k => c_dnew fun p H2 np s2 e2 => k _ _ s2 (.emp (nw_at np e2))
/-- a list of values written out -/
theorem lx_list {σ : L2.St} {H : Hp} {Q : VK} {ta : TA} {ds : List PyData} (h : LxA K ta ds) (n : ds.length ≤ 1000)
    (k : ∀ F xs H', Same H H' → H F = none → H' F = some (.lst xs) → DxAll K (nw H H') xs ds → Q (.ref F) H') : tLstB ta σ H Q :=
  h σ H _ fun vs H1 s1 h1 => c_newLB (by have := h1.len; omega) fun p H2 np b s2 e2 => k p vs H2 (s1.trans s2) (s1.free np) e2 (DxAll.keep (keepX_same (nw_r s2)) _ _ h1)
theorem lx_listT {σ : L2.St} {H : Hp} {Q : VK} {ta : TA} {ds : List PyData} (h : LxA K ta ds) (n : ds.length ≤ 1000)
    (k : ∀ F xs H', Same H H' → H F = none → H' F = some (.lst xs) → DxAll K (nw H H') xs ds → Q (.ref F) H') : tLst ta σ H Q :=
  h σ H _ fun vs H1 s1 h1 => c_newL (by have := h1.len; omega) fun p H2 np s2 e2 => k p vs H2 (s1.trans s2) (s1.free np) e2 (DxAll.keep (keepX_same (nw_r s2)) _ _ h1)
theorem DxAll.app : ∀ {H : Hp} {xs ys : List V} {ds es : List PyData}, DxAll K H xs ds → DxAll K H ys es → DxAll K H (xs ++ ys) (ds ++ es)
  | _, _, _, _, _, .nil, t => t
  | _, _, _, _, _, .cons h s, t => .cons h (DxAll.app s t)
/-- a list, and behind it a list of values written out -/
theorem lx_cat {σ : L2.St} {H0 H : Hp} {Q : VK} {i : Nat} {F : Addr} {xs : List V} {ta : TA} {ds es : List PyData} (e : σ[i]? = some (some (.ref F))) (s0 : Same H0 H) (eF : H F = some (.lst xs)) (hD : DxAll K (nw H0 H) xs ds) (h : LxA K ta es) (n : ds.length + es.length ≤ 1000)
    (k : ∀ F' ys H', Same H0 H' → H0 F' = none → H' F' = some (.lst ys) → DxAll K (nw H0 H') ys (ds ++ es) → Q (.ref F') H') : tOp rCat (tVar i) (tLstB ta) σ H Q :=
  c_op (c_var e (lx_list h (by omega) fun G ys H1 s1 _ e1 h1 => by
    have l0 := hD.len
    have l1 := h1.len
    refine ⟨F, G, xs, ys, rfl, rfl, s1 _ _ eF, e1, sz (by omega), fun p np => ?_⟩
    have s2 : Same H1 (upd H1 p (.lst (xs ++ ys))) := same_new np
    exact k p _ _ ((s0.trans s1).trans s2) ((s0.trans s1).free np) upd_same (DxAll.app (DxAll.keep (keepX_same (nw_r (s1.trans s2))) _ _ hD) (DxAll.keep (keepX_same ((nw_r s2).trans (nw_l s0))) _ _ h1))))
/-- statements that fill a list with values written out -/
theorem lx_first {σ : L2.St} {H : Hp} {D : Ends} {i : Nat} {ta : TA} {t2 : TS} {ds : List PyData} (h : LxA K ta ds) (n : ds.length ≤ 1000)
    (k : ∀ F xs H', Same H H' → H F = none → H' F = some (.lst xs) → DxAll K (nw H H') xs ds → t2 D (σ.set i (some (.ref F))) H') : tSeq (tAsg (tLstB ta) (gName i)) t2 D σ H :=
  c_seq (c_asg (lx_list h n k))
theorem lx_next {σ : L2.St} {H0 H : Hp} {D : Ends} {i : Nat} {F : Addr} {xs : List V} {ta : TA} {t2 : TS} {ds es : List PyData} (hi : i < σ.length) (s0 : Same H0 H) (eF : H F = some (.lst xs)) (hD : DxAll K (nw H0 H) xs ds) (h : LxA K ta es) (n : ds.length + es.length ≤ 1000)
    (k : ∀ F' ys H', Same H0 H' → H0 F' = none → H' F' = some (.lst ys) → DxAll K (nw H0 H') ys (ds ++ es) → t2 D (σ.set i (some (.ref F'))) H') : tSeq (tAsg (tOp rCat (tVar i) (tLstB ta)) (gName i)) t2 D (σ.set i (some (.ref F))) H :=
  c_seq (c_asg (lx_cat (by rw [List.getElem?_set_self hi]) s0 eF hD h n fun F' ys H' s n e d => by
    show t2 D ((σ.set i (some (.ref F))).set i (some (.ref F'))) H'
    rw [List.set_set]
    exact k F' ys H' s n e d))
theorem DxAll.mem : ∀ {H : Hp} {xs : List V} {ds : List PyData} {i : Nat} {v : V}, DxAll K H xs ds → xs[i]? = some v → ∃ d ∈ ds, Dx K H v d := fun h e => by
  obtain ⟨d, h1, h2⟩ := h.at e
  exact ⟨d, List.mem_of_getElem? h1, h2⟩
theorem lx_end {f : PyData → Bool} {n : Nat} {H : Hp} {xs : List V} {ds : List PyData} (h : DxAll K H xs ds) (l : ds.length = n) (ok : ds.all f = true) : xs.length = n ∧ ∀ (i : Nat) (v : V), xs[i]? = some v → ∃ d, Dx K H v d ∧ f d = true :=
  ⟨h.len.trans l, fun i v e => by
    obtain ⟨d, hd, hv⟩ := h.mem e
    exact ⟨d, hv, List.all_eq_true.mp ok d hd⟩⟩
end
end Und
set_option exponentiation.threshold 4000
namespace Und
open PySem PySem.Spec PyProof.Rows L2 LamX
/-! data judged as commands -/
def amOf : PyData → Option (Option Int)
  | .none => some none
  | .int n => if 1 ≤ n then some (some n) else none
  | _ => none
def mvOf : PyData → Option Mv
  | .tuple [.str w, a] => if w = "undo" then (amOf a).map fun m => (true, m) else if w = "redo" then (amOf a).map fun m => (false, m) else none
  | _ => none
def mvsOf : List PyData → Option (List Mv)
  | [] => some []
  | d :: ds => (mvOf d).bind fun m => (mvsOf ds).map fun ms => m :: ms
def nmOf : PyData → Option Str
  | .str z => if nameB z = true then some z else none
  | _ => none
def whOf : PyData → Option Int
  | .int n => if 1 ≤ n then some n else none
  | _ => none
def msOf : PyData → Option (List Mv)
  | .tuple (d :: ds) => mvsOf (d :: ds)
  | _ => none
def cmOf : PyData → Option Cmd
  | .tuple [.str w, a] => if w = "do" then (nmOf a).map Cmd.dd else (mvOf (.tuple [.str w, a])).map Cmd.mv
  | .tuple [.str w, a, b] => if w = "repeat" then (whOf a).bind fun n => (msOf b).map fun ms => Cmd.rep n ms else none
  | _ => none
/-- names that are no names are seen to be none -/
def NmS (d : PyData) : Prop := ∀ z, d = .str z → z.length ≤ 1000 ∧ (nameB z = false → z.length ≤ 8 → (Txt.isascii z && (Txt.isalpha z && Txt.islower z)) = false)
def CmS : PyData → Prop
  | .tuple [_, a] => NmS a
  | .tuple [_, _, .tuple ds] => ds.length ≤ 1000
  | _ => True
section
variable {K : PySem.W.Frag} {H : Hp}
theorem _root_.Und.All2.cons6 {α : Type} {R : V → α → Prop} {v : V} {c : α} {us : List V} {cs : List α} (h : R v c) (t : All2 R us cs) : All2 R (v :: us) (c :: cs) := (All2.one h).app t
theorem wd_ok : ∀ b : Bool, wdM b = "undo" ∨ wdM b = "redo" := by decide +kernel
theorem am_dx {H : Hp} {x : V} {am : Option Int} (h : AmOf x am) : Dx K H x (dAm am) := by
  rcases h.cases with ⟨rfl, rfl⟩ | ⟨n, rfl, rfl, h1⟩
  · exact .non
  · exact .int n
theorem mv_dx {H : Hp} {v : V} {m : Mv} (h : MvAt K H v m) : Dx K H v (dMv m) := by
  obtain ⟨a, x, rfl, hT, hx⟩ := h
  exact .tup hT (.cons (.str _) (.cons (am_dx hx) .nil))
theorem mvs_dx {H : Hp} : ∀ {us : List V} {ms : List Mv}, All2 (MvAt K H) us ms → DxAll K H us (ms.map dMv)
  | [], [], _ => .nil
  | [], _ :: _, h => by cases h.1
  | _ :: _, [], h => by cases h.1
  | u :: us, m :: ms, h => .cons (mv_dx (h.2 0 u m rfl rfl)) (mvs_dx ⟨by have := h.1; simpa using this, fun i x y e1 e2 => h.2 (i + 1) x y e1 e2⟩)
theorem dp_am (am : Option Int) : (dAm am).depth = 0 := by cases am <;> simp [dAm, PyData.depth]
theorem dp_mv (m : Mv) : (dMv m).depth ≤ 1 := by
  unfold dMv
  simp [PyData.depth, PyData.depthAll, dp_am]
theorem depth_all {n : Nat} : ∀ {ds : List PyData}, (∀ d ∈ ds, d.depth ≤ n) → PyData.depthAll ds ≤ n
  | [], _ => by simp [PyData.depthAll]
  | d :: ds, h => by
    unfold PyData.depthAll
    exact Nat.max_le.mpr ⟨h d List.mem_cons_self, depth_all fun y hy => h y (List.mem_cons_of_mem _ hy)⟩
theorem dx_tup {v : V} {ds : List PyData} (h : Dx K H v (.tuple ds)) : ∃ a xs, v = .ref a ∧ SqT K H a xs ∧ DxAll K H xs ds := by
  cases h with
  | tup a e => exact ⟨_, _, rfl, a, e⟩
theorem dx_cons {xs : List V} {d : PyData} {ds : List PyData} (h : DxAll K H xs (d :: ds)) : ∃ v vs, xs = v :: vs ∧ Dx K H v d ∧ DxAll K H vs ds := by
  cases h with
  | cons a b => exact ⟨_, _, rfl, a, b⟩
theorem dx_nil {xs : List V} (h : DxAll K H xs []) : xs = [] := by
  cases h
  rfl
theorem dx_str {v : V} {z : Str} (h : Dx K H v (.str z)) : v = .str z := by
  cases h
  rfl
theorem dx_two {v : V} {a b : PyData} (h : Dx K H v (.tuple [a, b])) : ∃ (p : Addr) (x y : V), v = .ref p ∧ SqT K H p [x, y] ∧ Dx K H x a ∧ Dx K H y b := by
  obtain ⟨p, xs, rfl, hT, hA⟩ := dx_tup h
  obtain ⟨x, r, rfl, hx, hA⟩ := dx_cons hA
  obtain ⟨y, r, rfl, hy, hA⟩ := dx_cons hA
  obtain rfl := dx_nil hA
  exact ⟨p, x, y, rfl, hT, hx, hy⟩
theorem dx_three {v : V} {a b c : PyData} (h : Dx K H v (.tuple [a, b, c])) : ∃ (p : Addr) (x y u : V), v = .ref p ∧ SqT K H p [x, y, u] ∧ Dx K H x a ∧ Dx K H y b ∧ Dx K H u c := by
  obtain ⟨p, xs, rfl, hT, hA⟩ := dx_tup h
  obtain ⟨x, r, rfl, hx, hA⟩ := dx_cons hA
  obtain ⟨y, r, rfl, hy, hA⟩ := dx_cons hA
  obtain ⟨u, r, rfl, hu, hA⟩ := dx_cons hA
  obtain rfl := dx_nil hA
  exact ⟨p, x, y, u, rfl, hT, hx, hy, hu⟩
theorem no_str {v : V} {d : PyData} (h : Dx K H v d) (n : ∀ z, d ≠ .str z) : ∃ t, TyX K H v t ∧ PySem.W.kitOne K t (.type "str") = some false := ⟨_, h.ty, kit_ty (by
  cases d with
  | str z => exact absurd rfl (n z)
  | _ => first | exact (by decide +kernel : kitB "NoneType" "str" = some false) | exact (by decide +kernel : kitB "bool" "str" = some false) | exact (by decide +kernel : kitB "int" "str" = some false) | exact (by decide +kernel : kitB "str" "str" = some false) | exact (by decide +kernel : kitB "list" "str" = some false) | exact (by decide +kernel : kitB "tuple" "str" = some false) | exact (by decide +kernel : kitB "dict" "str" = some false))⟩
theorem no_tup {v : V} {d : PyData} (h : Dx K H v d) (n : ∀ z, d ≠ .tuple z) : ∃ t, TyX K H v t ∧ PySem.W.kitOne K t (.type "tuple") = some false := ⟨_, h.ty, kit_ty (by
  cases d with
  | tuple z => exact absurd rfl (n z)
  | _ => first | exact (by decide +kernel : kitB "NoneType" "tuple" = some false) | exact (by decide +kernel : kitB "bool" "tuple" = some false) | exact (by decide +kernel : kitB "int" "tuple" = some false) | exact (by decide +kernel : kitB "str" "tuple" = some false) | exact (by decide +kernel : kitB "list" "tuple" = some false) | exact (by decide +kernel : kitB "tuple" "tuple" = some false) | exact (by decide +kernel : kitB "dict" "tuple" = some false))⟩
theorem no_int {v : V} {d : PyData} (h : Dx K H v d) (n : ∀ z, d ≠ .int z) (n2 : ∀ z, d ≠ .bool z) : ∃ t, TyX K H v t ∧ PySem.W.kitOne K t (.type "int") = some false := ⟨_, h.ty, kit_ty (by
  cases d with
  | int z => exact absurd rfl (n z)
  | bool z => exact absurd rfl (n2 z)
  | _ => first | exact (by decide +kernel : kitB "NoneType" "int" = some false) | exact (by decide +kernel : kitB "bool" "int" = some false) | exact (by decide +kernel : kitB "int" "int" = some false) | exact (by decide +kernel : kitB "str" "int" = some false) | exact (by decide +kernel : kitB "list" "int" = some false) | exact (by decide +kernel : kitB "tuple" "int" = some false) | exact (by decide +kernel : kitB "dict" "int" = some false))⟩
theorem amQ_of {v : V} {d : PyData} (h : Dx K H v d) : AmQ K H v (amOf d).isSome := by
  cases d with
  | none =>
    cases h
    exact .inl ⟨rfl, rfl⟩
  | int n =>
    cases h
    refine .inr (.inl ⟨n, rfl, ?_⟩)
    unfold amOf
    by_cases e : 1 ≤ n <;> simp [e]
  | bool b =>
    cases h
    exact .inr (.inr (.inl ⟨b, rfl, rfl⟩))
  | _ =>
    obtain ⟨t, h1, h2⟩ := no_int h (fun z e => by cases e) (fun z e => by cases e)
    exact .inr (.inr (.inr ⟨t, (by intro z; rw [z] at h; cases h), h1, h2, rfl⟩))
theorem whQ_of {v : V} {d : PyData} (h : Dx K H v d) : WhQ K H v (whOf d).isSome := by
  cases d with
  | int n =>
    cases h
    refine .inl ⟨n, rfl, ?_⟩
    unfold whOf
    by_cases e : 1 ≤ n <;> simp [e]
  | bool b =>
    cases h
    exact .inr (.inl ⟨b, rfl, rfl⟩)
  | _ =>
    obtain ⟨t, h1, h2⟩ := no_int h (fun z e => by cases e) (fun z e => by cases e)
    exact .inr (.inr ⟨t, h1, h2, rfl⟩)
theorem nmQ_of {v : V} {d : PyData} (h : Dx K H v d) (s : NmS d) : NmQ K H v (nmOf d).isSome := by
  cases d with
  | str z =>
    cases h
    obtain ⟨h1, h2⟩ := s z rfl
    refine .inl ⟨z, rfl, h1, ?_⟩
    unfold nmOf
    by_cases e : nameB z = true
    · exact .inl ⟨name_of e, by simp [e]⟩
    · have e : nameB z = false := by simpa using e
      by_cases l : z.length ≤ 8
      · exact .inr (.inr ⟨l, h2 e l, by simp [e]⟩)
      · exact .inr (.inl ⟨by omega, by simp [e]⟩)
  | _ =>
    obtain ⟨t, h1, h2⟩ := no_str h (fun z e => by cases e)
    exact .inr ⟨t, h1, h2, rfl⟩
theorem mvQ_of {v : V} {d : PyData} (h : Dx K H v d) : MvQ K H v (mvOf d).isSome := by
  by_cases ht : ∃ ds, d = .tuple ds
  · obtain ⟨ds, rfl⟩ := ht
    match ds with
    | [] =>
      obtain ⟨p, xs, rfl, hT, hA⟩ := dx_tup h
      exact .inr (.inl ⟨p, xs, rfl, hT, (by rw [hA.len]; simp), rfl⟩)
    | [a] =>
      obtain ⟨p, xs, rfl, hT, hA⟩ := dx_tup h
      exact .inr (.inl ⟨p, xs, rfl, hT, (by rw [hA.len]; simp), (by cases a <;> rfl)⟩)
    | a :: b :: c :: r =>
      obtain ⟨p, xs, rfl, hT, hA⟩ := dx_tup h
      exact .inr (.inl ⟨p, xs, rfl, hT, (by rw [hA.len]; simp), (by cases a <;> rfl)⟩)
    | [a, b] =>
      obtain ⟨p, x, y, rfl, hT, hx, hy⟩ := dx_two h
      by_cases hs : ∃ z, a = .str z
      · obtain ⟨w, rfl⟩ := hs
        obtain rfl := dx_str hx
        by_cases w1 : w = "undo"
        · refine .inr (.inr (.inr (.inr ⟨p, w, y, rfl, hT, .inl w1, ?_⟩)))
          have e : (mvOf (.tuple [.str w, b])).isSome = (amOf b).isSome := by simp [mvOf, w1]
          rw [e]
          exact amQ_of hy
        · by_cases w2 : w = "redo"
          · refine .inr (.inr (.inr (.inr ⟨p, w, y, rfl, hT, .inr w2, ?_⟩)))
            have e : (mvOf (.tuple [.str w, b])).isSome = (amOf b).isSome := by
              subst w2
              simp [mvOf, w1]
            rw [e]
            exact amQ_of hy
          · exact .inr (.inr (.inr (.inl ⟨p, w, y, rfl, hT, w1, w2, by simp [mvOf, w1, w2]⟩)))
      · obtain ⟨t, h1, h2⟩ := no_str hx (fun z e => hs ⟨z, e⟩)
        refine .inr (.inr (.inl ⟨p, x, y, t, rfl, hT, h1, h2, ?_⟩))
        cases a with
        | str z => exact absurd ⟨z, rfl⟩ hs
        | _ => rfl
  · obtain ⟨t, h1, h2⟩ := no_tup h (fun z e => ht ⟨z, e⟩)
    refine .inl ⟨t, h1, h2, ?_⟩
    cases d with
    | tuple z => exact absurd ⟨z, rfl⟩ ht
    | _ => rfl
theorem mvs_all : ∀ ds : List PyData, (mvsOf ds).isSome = (ds.map fun d => (mvOf d).isSome).all id
  | [] => rfl
  | d :: ds => by
    unfold mvsOf
    rw [List.map_cons, List.all_cons, ← mvs_all ds]
    cases mvOf d with
    | none => rfl
    | some m => simp
theorem mvsQ_of : ∀ {us : List V} {ds : List PyData}, DxAll K H us ds → All2 (MvQ K H) us (ds.map fun d => (mvOf d).isSome)
  | _, [], h => by
    obtain rfl := dx_nil h
    exact .nil
  | _, d :: ds, h => by
    obtain ⟨v, vs, rfl, h1, h2⟩ := dx_cons h
    exact All2.cons6 (mvQ_of h1) (mvsQ_of h2)
theorem cmQ_of {v : V} {d : PyData} (h : Dx K H v d) (s : CmS d) : CmQ K H v (cmOf d).isSome := by
  by_cases ht : ∃ ds, d = .tuple ds
  · obtain ⟨ds, rfl⟩ := ht
    have few : ∀ {p : Addr} {xs : List V}, v = .ref p → SqT K H p xs → DxAll K H xs ds → ds.length ≠ 2 → ds.length ≠ 3 → (cmOf (.tuple ds)).isSome = false → CmQ K H v (cmOf (.tuple ds)).isSome := fun e hT hA h2 h3 hn => by
      rw [hn]
      refine .inr (.inr (.inr (.inr (.inl ⟨_, _, e, hT, (by rw [hA.len]; exact h2), (by rw [hA.len]; exact h3), ?_, rfl⟩))))
      cases ds with
      | nil => exact .inl (dx_nil hA)
      | cons a r =>
        obtain ⟨x, vs, rfl, hx, _⟩ := dx_cons hA
        refine .inr ⟨x, vs, rfl, ?_⟩
        by_cases hs : ∃ z, a = .str z
        · obtain ⟨z, rfl⟩ := hs
          exact .inl ⟨z, dx_str hx⟩
        · exact .inr (no_str hx (fun z e => hs ⟨z, e⟩))
    match ds with
    | [] =>
      obtain ⟨p, xs, e, hT, hA⟩ := dx_tup h
      exact few e hT hA (by simp) (by simp) rfl
    | [a] =>
      obtain ⟨p, xs, e, hT, hA⟩ := dx_tup h
      exact few e hT hA (by simp) (by simp) (by cases a <;> rfl)
    | a :: b :: c :: u :: r =>
      obtain ⟨p, xs, e, hT, hA⟩ := dx_tup h
      exact few e hT hA (by simp) (by simp) (by cases a <;> rfl)
    | [a, b] =>
      clear few
      have hm := mvQ_of h
      obtain ⟨p, x, y, rfl, hT, hx, hy⟩ := dx_two h
      by_cases hs : ∃ z, a = .str z
      · obtain ⟨w, rfl⟩ := hs
        obtain rfl := dx_str hx
        by_cases w1 : w = "do"
        · subst w1
          have e : (cmOf (.tuple [.str "do", b])).isSome = (nmOf b).isSome := by simp [cmOf]
          rw [e]
          exact .inl ⟨p, y, rfl, hT, nmQ_of hy s⟩
        · have e : (cmOf (.tuple [.str w, b])).isSome = (mvOf (.tuple [.str w, b])).isSome := by simp [cmOf, w1]
          rw [e]
          refine .inr (.inl ⟨p, w, y, rfl, hT, w1, fun w2 => ?_, hm⟩)
          subst w2
          have n1 : ¬((Str.ofString "repeat") = Str.ofString "undo") := by decide +kernel
          have n2 : ¬((Str.ofString "repeat") = Str.ofString "redo") := by decide +kernel
          simp [mvOf, n1, n2]
      · obtain ⟨t, h1, h2⟩ := no_str hx (fun z e => hs ⟨z, e⟩)
        refine .inr (.inr (.inl ⟨p, x, y, t, rfl, hT, h1, h2, ?_⟩))
        cases a with
        | str z => exact absurd ⟨z, rfl⟩ hs
        | _ => rfl
    | [a, b, c] =>
      clear few
      obtain ⟨p, x, y, u, rfl, hT, hx, hy, hu⟩ := dx_three h
      refine .inr (.inr (.inr (.inr (.inr ?_))))
      by_cases hs : ∃ z, a = .str z
      · obtain ⟨w, rfl⟩ := hs
        obtain rfl := dx_str hx
        by_cases w1 : w = "repeat"
        · subst w1
          have e : (cmOf (.tuple [.str "repeat", b, c])).isSome = ((whOf b).isSome && (msOf c).isSome) := by
            simp only [cmOf, if_true]
            cases whOf b <;> simp
          rw [e]
          have hw := whQ_of hy
          cases eb : (whOf b).isSome with
          | false =>
            rw [eb] at hw
            exact .inr (.inr (.inl ⟨p, y, u, rfl, hT, hw, rfl⟩))
          | true =>
            rw [eb] at hw
            rw [Bool.true_and]
            by_cases hc : ∃ es, c = .tuple es
            · obtain ⟨es, rfl⟩ := hc
              obtain ⟨q, us, rfl, hU, hA⟩ := dx_tup hu
              refine .inr (.inr (.inr (.inr ⟨p, q, y, us, _, rfl, hT, hw, hU, (by rw [hA.len]; exact s), mvsQ_of hA, ?_⟩)))
              rw [hA.len]
              cases es with
              | nil => rfl
              | cons e1 er =>
                rw [← mvs_all]
                simp [msOf]
            · obtain ⟨t, h1, h2⟩ := no_tup hu (fun z e => hc ⟨z, e⟩)
              refine .inr (.inr (.inr (.inl ⟨p, y, u, t, rfl, hT, hw, h1, h2, ?_⟩)))
              cases c with
              | tuple z => exact absurd ⟨z, rfl⟩ hc
              | _ => rfl
        · exact .inr (.inl ⟨p, w, y, u, rfl, hT, w1, by simp [cmOf, w1]⟩)
      · obtain ⟨t, h1, h2⟩ := no_str hx (fun z e => hs ⟨z, e⟩)
        refine .inl ⟨p, x, y, u, t, rfl, hT, h1, h2, ?_⟩
        cases a with
        | str z => exact absurd ⟨z, rfl⟩ hs
        | _ => rfl
  · obtain ⟨t, h1, h2⟩ := no_tup h (fun z e => ht ⟨z, e⟩)
    refine .inr (.inr (.inr (.inl ⟨t, h1, h2, ?_⟩)))
    cases d with
    | tuple z => exact absurd ⟨z, rfl⟩ ht
    | _ => rfl
/-- decided at one go for what is written out -/
def nmSB : PyData → Bool
  | .str z => decide (z.length ≤ 1000) && (nameB z || decide (8 < z.length) || !(Txt.isascii z && (Txt.isalpha z && Txt.islower z)))
  | _ => true
theorem nmS_of {d : PyData} (h : nmSB d = true) : NmS d := fun z e => by
  subst e
  unfold nmSB at h
  simp only [Bool.and_eq_true, Bool.or_eq_true, decide_eq_true_eq, Bool.not_eq_true'] at h
  refine ⟨h.1, fun k l => ?_⟩
  rcases h.2 with (h2 | h2) | h2
  · rw [k] at h2
    cases h2
  · omega
  · exact h2
def cmSB : PyData → Bool
  | .tuple [_, a] => nmSB a
  | .tuple [_, _, .tuple ds] => decide (ds.length ≤ 1000)
  | _ => true
theorem cmS_of {d : PyData} (h : cmSB d = true) : CmS d := by
  match d, h with
  | .tuple [a, b], h => exact nmS_of h
  | .tuple [a, b, .tuple ds], h =>
    show ds.length ≤ 1000
    exact of_decide_eq_true h
  | .tuple [a, b, .none], h | .tuple [a, b, .bool _], h | .tuple [a, b, .int _], h | .tuple [a, b, .str _], h | .tuple [a, b, .list _], h | .tuple [a, b, .dict _], h => trivial
  | .tuple [], h | .tuple [_], h => trivial
  | .tuple (a :: b :: c :: u :: r), h => cases c <;> trivial
  | .none, h | .bool _, h | .int _, h | .str _, h | .list _, h | .dict _, h => trivial
theorem cm_dx {v : V} {c : Cmd} (h : CmdAt K H v c) : Dx K H v (dCm c) := by
  cases c with
  | dd y =>
    obtain ⟨a, rfl, hT, hz⟩ := h
    exact .tup hT (.cons (.str _) (.cons (.str _) .nil))
  | mv m => exact mv_dx h
  | rep n ms =>
    obtain ⟨a, b, us, rfl, hT, hU, hA, _⟩ := h
    exact .tup hT (.cons (.str _) (.cons (.int _) (.cons (.tup hU (mvs_dx hA)) .nil)))
/-! how long the texts of values are -/
mutual
def wt : PyData → Nat
  | .none => 4
  | .bool _ => 5
  | .int _ => 600
  | .str z => 10 * z.length + 2
  | .list ds => wtA ds + 3
  | .tuple ds => wtA ds + 3
  | .dict _ => 2
def wtA : List PyData → Nat
  | [] => 0
  | d :: ds => wt d + 2 + wtA ds
end
theorem wtA_app : ∀ as bs : List PyData, wtA (as ++ bs) = wtA as + wtA bs
  | [], bs => by simp [wtA]
  | a :: as, bs => by
    simp only [List.cons_append, wtA, wtA_app as bs]
    omega
/-- a value that is bent n times -/
inductive Lv (n : Nat) : PyData → Prop
  | non : Lv n .none
  | bl (b : Bool) : Lv n (.bool b)
  | int (i : Int) : i.natAbs ≤ 10 ^ 500 + n → Lv n (.int i)
  | str (z : Str) : (∀ c ∈ z.cps.toList, c < 128) → z.length ≤ 600 + n → Lv n (.str z)
  | lst (ds : List PyData) : ds.length ≤ 20 + n → (∀ d ∈ ds, Lv n d) → Lv n (.list ds)
  | tup (ds : List PyData) : ds.length ≤ 20 + n → (∀ d ∈ ds, Lv n d) → Lv n (.tuple ds)
  | dic : Lv n (.dict [])
theorem Lv.up {n : Nat} {d : PyData} (h : Lv n d) : Lv (n + 1) d := by
  induction h with
  | non => exact .non
  | bl b => exact .bl b
  | int i h => exact .int i (by omega)
  | str z h l => exact .str z h (by omega)
  | lst ds l _ ih => exact .lst ds (by omega) ih
  | tup ds l _ ih => exact .tup ds (by omega) ih
  | dic => exact .dic
theorem join_sum : ∀ ds : List PyData, (∀ d ∈ ds, d.shown.length ≤ wt d) → (Str.join ", " (PyData.shownAll ds)).length ≤ wtA ds
  | [], _ => Nat.zero_le _
  | [d], h => by
    have := h d List.mem_cons_self
    show d.shown.length ≤ wt d + 2 + 0
    omega
  | d :: e :: r, h => by
    have ih := join_sum (e :: r) fun t ht => h t (List.mem_cons_of_mem _ ht)
    have hx := h d List.mem_cons_self
    have e2 : ((", " : String) : Str).length = 2 := rfl
    show (d.shown ++ ", " ++ Str.join ", " (PyData.shownAll (e :: r))).length ≤ wt d + 2 + wtA (e :: r)
    rw [PySem.Str.length_append, PySem.Str.length_append, e2]
    omega
theorem from_sum : ∀ (ds : List PyData) (k : Nat) (acc : Str), (∀ d ∈ ds, d.shown.length ≤ wt d) → (textFrom k acc (PyData.shownAll ds)).length ≤ acc.length + wtA ds
  | [], _, _, _ => Nat.le_add_right _ _
  | d :: r, k, acc, h => by
    have ht := h d List.mem_cons_self
    have ih := from_sum r (k + 1) (acc ++ (if k > 0 then ", " else "" : String) ++ d.shown) fun x hx => h x (List.mem_cons_of_mem _ hx)
    have e : (acc ++ (if k > 0 then ", " else "" : String) ++ d.shown).length ≤ acc.length + 2 + d.shown.length := by
      rw [PySem.Str.length_append, PySem.Str.length_append]
      have : (((if k > 0 then ", " else "" : String)) : Str).length ≤ 2 := by split <;> decide
      omega
    show (textFrom (k + 1) (acc ++ (if k > 0 then ", " else "" : String) ++ d.shown) (PyData.shownAll r)).length ≤ acc.length + (wt d + 2 + wtA r)
    omega
theorem showAll_of : ∀ ds : List PyData, (∀ d ∈ ds, d.showable = true) → PyData.showableAll ds = true
  | [], _ => by simp [PyData.showableAll]
  | d :: ds, h => by rw [PyData.showableAll, h d List.mem_cons_self, showAll_of ds fun x hx => h x (List.mem_cons_of_mem _ hx)]; rfl
theorem int_len {i : Int} (h : i.natAbs < 10 ^ 501) : (Str.ofString (toString i)).length ≤ 502 := by
  have := PySem.int_text_length_le10 (a := i) (k := 501) (by decide) h
  have e : (Str.ofString (toString i)).length = (toString i).length := PySem.ofString_length _
  omega
theorem Lv.shw {n : Nat} (hn : n ≤ 10) {d : PyData} (h : Lv n d) : d.showable = true ∧ d.shown.length ≤ wt d := by
  induction h with
  | non => exact ⟨by decide +kernel, by decide +kernel⟩
  | bl b => cases b <;> exact ⟨by decide +kernel, by decide +kernel⟩
  | int i h =>
    have hb : i.natAbs < 2 ^ 1700 := by
      have c : 10 ^ 500 + 10 < 2 ^ 1700 := by decide +kernel
      omega
    refine ⟨?_, ?_⟩
    · rw [PyData.showable]
      exact decide_eq_true (Nat.lt_trans (PySem.Flt.log2_lt_of (by decide) hb) (by decide))
    · rw [PyData.shown]
      show (Str.ofString (toString i)).length ≤ 600
      exact Nat.le_trans (int_len (by have c : 10 ^ 500 + 10 < 10 ^ 501 := by decide +kernel
                                      omega)) (by decide)
  | str z h l =>
    refine ⟨by rw [PyData.showable], ?_⟩
    rw [PyData.shown]
    have h1 := PySem.StrLaws.reprText_len z (fun c hc => Nat.lt_of_lt_of_le (h c hc) (by decide))
    show (reprText z).length ≤ 10 * z.length + 2
    omega
  | lst ds l _ ih =>
    refine ⟨by rw [PyData.showable]; exact showAll_of ds fun d hd => (ih d hd).1, ?_⟩
    rw [PyData.shown]
    have := from_sum ds 0 "[" fun d hd => (ih d hd).2
    unfold listText
    have e1 : ((("[" : String) : Str)).length = 1 := rfl
    have e3 : ((("]" : String) : Str)).length = 1 := rfl
    rw [PySem.Str.length_append, e3]
    show _ ≤ wtA ds + 3
    omega
  | tup ds l _ ih =>
    refine ⟨by rw [PyData.showable]; exact showAll_of ds fun d hd => (ih d hd).1, ?_⟩
    rw [PyData.shown]
    have := join_sum ds fun d hd => (ih d hd).2
    unfold tupleText
    have e1 : ((("(" : String) : Str)).length = 1 := rfl
    have e3 : (((if (PyData.shownAll ds).length == 1 then ",)" else ")" : String) : Str)).length ≤ 2 := by split <;> decide
    rw [PySem.Str.length_append, PySem.Str.length_append, e1]
    show _ ≤ wtA ds + 3
    omega
  | dic => exact ⟨by decide +kernel, by decide +kernel⟩
theorem alpha_table : ∀ c < 128, Unicode.isAlpha c = true → (Unicode.isUpper c || Unicode.isTitle c) = false → 97 ≤ c ∧ c ≤ 122 := by decide +kernel
theorem name_back {z : Str} (a : (Txt.isascii z && (Txt.isalpha z && Txt.islower z)) = true) (l : z.length ≤ 8) : nameB z = true := by
  simp only [Bool.and_eq_true] at a
  obtain ⟨a, b, c⟩ := a
  unfold Txt.isascii at a
  unfold Txt.isalpha at b
  unfold Txt.islower at c
  rw [← Array.all_toList, List.all_eq_true] at a
  rw [Bool.and_eq_true, decide_eq_true_eq, ← Array.all_toList, List.all_eq_true] at b
  rw [← Array.any_toList, ← Array.any_toList, Bool.and_eq_true] at c
  have c2 : (z.cps.toList.any fun c => Unicode.isUpper c || Unicode.isTitle c) = false := by simpa using c.2
  rw [List.any_eq_false] at c2
  refine (nameB_iff z).mpr ⟨b.1, l, fun x hx => alpha_table x (of_decide_eq_true (a x hx)) (b.2 x hx) (by have := c2 x hx; simpa using this)⟩
theorem Lv.cms {n : Nat} (hn : n ≤ 10) {d : PyData} (h : Lv n d) : CmS d := by
  have nm : ∀ {e : PyData}, Lv n e → NmS e := fun {e} h z he => by
    subst he
    cases h with
    | str _ h l =>
      refine ⟨by omega, fun e l8 => ?_⟩
      cases k : (Txt.isascii z && (Txt.isalpha z && Txt.islower z)) with
      | false => rfl
      | true =>
        rw [name_back k l8] at e
        cases e
  cases h with
  | tup ds l h =>
    match ds, l, h with
    | [a, b], l, h => exact nm (h b (by simp))
    | [a, b, .tuple es], l, h =>
      have := h (.tuple es) (by simp)
      show es.length ≤ 1000
      cases this
      omega
    | [a, b, .none], l, h | [a, b, .bool _], l, h | [a, b, .int _], l, h | [a, b, .str _], l, h | [a, b, .list _], l, h | [a, b, .dict _], l, h => trivial
    | [], l, h | [_], l, h => trivial
    | (a :: b :: c :: u :: r), l, h => cases c <;> trivial
  | _ => trivial
end
end Und
set_option exponentiation.threshold 4000
namespace Und
open PySem PySem.Spec PyProof.Rows L2 LamX
local macro_rules | `(tactic| walk_at "side") => `(tactic| first | decide | omega | exact ⟨by omega, by omega⟩ | (show (0 : Int) < _; omega) | (exact Or.inl ⟨by omega, by omega⟩) | (exact Or.inr ⟨by omega, by omega⟩) | (exact sz (by simp)) | (exact szl (by simp)))
local macro_rules | `(tactic| walk_at "u") => `(tactic| first
  | with_reducible refine c_seq ?_ | with_reducible refine c_next ?_ | with_reducible refine c_yes ?_ | with_reducible refine c_asg ?_ | with_reducible refine c_asg2 ?_ | with_reducible refine c_par ?_ | with_reducible refine c_two ?_ | with_reducible refine c_g ?_ | with_reducible refine c_gsub ?_ | with_reducible refine c_gcons ?_ | with_reducible refine c_gnil ?_ | with_reducible refine c_ret ?_ | with_reducible refine c_drop ?_
  | ((with_reducible refine c_var (v := ?v) ?h ?_); (case h => rfl)) | with_reducible refine c_c ?_ | with_reducible refine c_op ?_ | with_reducible refine c_un ?_ | with_reducible refine c_I0 ?_
  | ((with_reducible refine c_I ?h ?_); (case h => walk_at "side"))
  | ((with_reducible refine c_eq ?h ?_); (case h => rfl)) | ((with_reducible refine c_neq ?h ?_); (case h => rfl)) | with_reducible refine c_test ?_ | with_reducible refine c_B ?_ | with_reducible refine c_bl ?_ | with_reducible refine c_int ?_ | with_reducible refine c_ifs ?_ | with_reducible refine c_ife ?_
  | with_reducible refine c_andV ?_ | with_reducible refine c_orV ?_ | with_reducible refine c_notV ?_ | with_reducible refine c_and ?_ | with_reducible refine c_or ?_ | with_reducible refine c_not ?_
  | with_reducible refine c_call ?_ | with_reducible refine c_cb ?_ | with_reducible refine c_nil ?_ | with_reducible refine c_cons ?_
  | with_reducible refine c_tup ?_ | with_reducible refine c_lst ?_ | with_reducible refine c_sl ?_ | with_reducible refine c_nop ?_ | with_reducible refine c_part ?_ | with_reducible refine c_fld ?_
  | with_reducible refine c_for ?_ | with_reducible refine c_ilist ?_ | with_reducible refine c_itup ?_ | with_reducible refine c_irng1 ?_ | with_reducible refine c_lc ?_
  | with_reducible refine c_m1 ?_ | with_reducible refine c_isS ?_ | with_reducible refine c_chain ?_ | with_reducible refine c_str ?_ | with_reducible refine c_make ?_ | with_reducible refine c_meth ?_ | with_reducible refine c_prop ?_ | with_reducible refine c_sfld ?_ | with_reducible refine c_ienumT ?_ | with_reducible refine iteT ?_ | with_reducible refine iteF ?_ | with_reducible refine iteNT ?_ | with_reducible refine iteNF ?_
  | ((with_reducible refine iteDT ?h ?_); (case h => first | rfl | omega)) | ((with_reducible refine iteDF ?h ?_); (case h => first | omega | (intro z; cases z; done))) | ((with_reducible refine iteNDT ?h ?_); (case h => first | rfl | omega)) | ((with_reducible refine iteNDF ?h ?_); (case h => first | omega | (intro z; cases z; done))))
local macro_rules | `(tactic| walk_at "go") => `(tactic| repeat (walk_at "u"))
local macro_rules | `(tactic| walk_at "lit") => `(tactic| repeat (first | with_reducible exact lx_nil | with_reducible apply lx_cons | with_reducible exact lx_non | with_reducible exact lx_bl | with_reducible exact lx_int | with_reducible exact lx_str | with_reducible exact lx_neg | with_reducible exact lx_dic | with_reducible apply lx_tup | with_reducible apply lx_lst | with_reducible apply lx_pow | decide | exact ⟨by decide, by decide, by decide⟩))
def oddB (d : PyData) : Bool := cmSB d && decide (d.showable = true) && decide (d.shown.length ≤ 20000) && decide (d.depth ≤ 10)
section
variable {P : Program} {w : World} {K : PySem.W.Frag} {mg : Str → Option Value} {base : Heap}
def spOddX (K : PySem.W.Frag) : Sp := fun vs H Q _ => ∃ p : Addr, vs = [.ref p] ∧ Pool H p ∧ ∀ v d H', Stp p H H' → Dx K (nw H H') v d → oddB d = true → Q v H'
theorem ok_odd (T : TX K mg) : FnG P w K mg base CX0 3 T.f_law_odd T.fd_law_odd pLOdd (spOddX K) := by
  have G_law_draw := ok_draw (P := P) (w := w) (K := K) (base := base) T.d_law_draw T.divmod
  refine okG0 T.d_law_odd.F scLOdd (fun vs H Q E h => ?_) (fun cdv A outer s H vs Q E g hr h => ?_)
  · obtain ⟨p, rfl, _⟩ := h
    rfl
  · obtain ⟨p, rfl, pool, q⟩ := h
    refine ⟨_, pss_cons (ps_set (i := 1) scLOdd.nd rfl (.inl rfl) (peLstB (pa_cons (pe_non) (pa_cons (pe_int) (pa_cons (pe_int) (pa_cons (pe_bl) (pa_cons (pe_str) (pa_cons (pe_str) (pa_cons (pe_str) (pa_cons (pe_str) (pa_cons (peLstB (pa_nil)) (pa_cons (pe_dnewK) (pa_cons (pe_tup (pa_nil)) (pa_cons (pe_tup (pa_cons (pe_str) pa_nil)) (pa_cons (pe_tup (pa_cons (pe_str) (pa_cons (pe_str) (pa_cons (pe_str) pa_nil)))) pa_nil)))))))))))))))
      (pss_cons (ps_set (i := 1) scLOdd.nd rfl (.inl rfl) (pe_op op_cat (pv 1) (peLstB (pa_cons (pe_tup (pa_cons (pe_str) (pa_cons (pe_str) pa_nil))) (pa_cons (pe_tup (pa_cons (pe_str) (pa_cons (pe_str) pa_nil))) pa_nil)))))
      (pss_cons (ps_set (i := 1) scLOdd.nd rfl (.inl rfl) (pe_op op_cat (pv 1) (peLstB (pa_cons (pe_tup (pa_cons (pe_str) (pa_cons (pe_str) pa_nil))) (pa_cons (pe_tup (pa_cons (pe_str) (pa_cons (pe_str) pa_nil))) (pa_cons (pe_tup (pa_cons (pe_str) (pa_cons (pe_non) pa_nil))) (pa_cons (pe_tup (pa_cons (pe_str) (pa_cons (pe_int) pa_nil))) (pa_cons (pe_tup (pa_cons (pe_str) (pa_cons (peLstB (pa_cons (pe_str) pa_nil)) pa_nil))) pa_nil))))))))
      (pss_cons (ps_set (i := 1) scLOdd.nd rfl (.inl rfl) (pe_op op_cat (pv 1) (peLstB (pa_cons (pe_tup (pa_cons (pe_str) (pa_cons (pe_str) pa_nil))) (pa_cons (peLstB (pa_cons (pe_str) (pa_cons (pe_str) pa_nil))) pa_nil)))))
      (pss_cons (ps_set (i := 1) scLOdd.nd rfl (.inl rfl) (pe_op op_cat (pv 1) (peLstB (pa_cons (pe_tup (pa_cons (pe_str) pa_nil)) (pa_cons (pe_tup (pa_cons (pe_str) (pa_cons (pe_int) pa_nil))) (pa_cons (pe_tup (pa_cons (pe_str) (pa_cons (pe_un un_neg (pe_int)) pa_nil))) (pa_cons (pe_tup (pa_cons (pe_str) (pa_cons (pe_bl) pa_nil))) (pa_cons (pe_tup (pa_cons (pe_str) (pa_cons (pe_str) pa_nil))) pa_nil))))))))
      (pss_cons (ps_set (i := 1) scLOdd.nd rfl (.inl rfl) (pe_op op_cat (pv 1) (peLstB (pa_cons (pe_tup (pa_cons (pe_str) (pa_cons (pe_str) pa_nil))) (pa_cons (pe_tup (pa_cons (pe_str) (pa_cons (pe_int) (pa_cons (pe_int) pa_nil)))) pa_nil)))))
      (pss_cons (ps_set (i := 1) scLOdd.nd rfl (.inl rfl) (pe_op op_cat (pv 1) (peLstB (pa_cons (pe_tup (pa_cons (pe_str) (pa_cons (peLstB (pa_cons (pe_int) pa_nil)) pa_nil))) (pa_cons (pe_tup (pa_cons (pe_str) (pa_cons (pe_int) pa_nil))) (pa_cons (pe_tup (pa_cons (pe_str) (pa_cons (pe_bl) pa_nil))) (pa_cons (pe_tup (pa_cons (pe_str) (pa_cons (pe_dnewK) pa_nil))) (pa_cons (pe_tup (pa_cons (pe_str) (pa_cons (pe_int) pa_nil))) pa_nil))))))))
      (pss_cons (ps_set (i := 1) scLOdd.nd rfl (.inl rfl) (pe_op op_cat (pv 1) (peLstB (pa_cons (peLstB (pa_cons (pe_str) (pa_cons (pe_int) pa_nil))) (pa_cons (pe_tup (pa_cons (pe_str) pa_nil)) pa_nil)))))
      (pss_cons (ps_set (i := 1) scLOdd.nd rfl (.inl rfl) (pe_op op_cat (pv 1) (peLstB (pa_cons (pe_tup (pa_cons (pe_str) (pa_cons (pe_int) pa_nil))) (pa_cons (pe_tup (pa_cons (pe_str) (pa_cons (pe_int) (pa_cons (pe_tup (pa_nil)) pa_nil)))) (pa_cons (pe_tup (pa_cons (pe_str) (pa_cons (pe_int) (pa_cons (pe_tup (pa_cons (pe_tup (pa_cons (pe_str) (pa_cons (pe_int) pa_nil))) pa_nil)) pa_nil)))) pa_nil))))))
      (pss_cons (ps_set (i := 1) scLOdd.nd rfl (.inl rfl) (pe_op op_cat (pv 1) (peLstB (pa_cons (pe_tup (pa_cons (pe_str) (pa_cons (pe_bl) (pa_cons (pe_tup (pa_cons (pe_tup (pa_cons (pe_str) (pa_cons (pe_int) pa_nil))) pa_nil)) pa_nil)))) pa_nil))))
      (pss_cons (ps_set (i := 1) scLOdd.nd rfl (.inl rfl) (pe_op op_cat (pv 1) (peLstB (pa_cons (pe_tup (pa_cons (pe_str) (pa_cons (pe_non) (pa_cons (pe_tup (pa_cons (pe_tup (pa_cons (pe_str) (pa_cons (pe_int) pa_nil))) pa_nil)) pa_nil)))) (pa_cons (pe_tup (pa_cons (pe_str) (pa_cons (pe_int) (pa_cons (peLstB (pa_cons (pe_tup (pa_cons (pe_str) (pa_cons (pe_int) pa_nil))) pa_nil)) pa_nil)))) pa_nil)))))
      (pss_cons (ps_set (i := 1) scLOdd.nd rfl (.inl rfl) (pe_op op_cat (pv 1) (peLstB (pa_cons (pe_tup (pa_cons (pe_str) (pa_cons (pe_int) (pa_cons (pe_tup (pa_cons (pe_str) (pa_cons (pe_int) pa_nil))) pa_nil)))) pa_nil))))
      (pss_cons (ps_set (i := 1) scLOdd.nd rfl (.inl rfl) (pe_op op_cat (pv 1) (peLstB (pa_cons (pe_tup (pa_cons (pe_str) (pa_cons (pe_int) (pa_cons (pe_tup (pa_cons (pe_tup (pa_cons (pe_str) (pa_cons (pe_str) pa_nil))) pa_nil)) pa_nil)))) (pa_cons (pe_tup (pa_cons (pe_str) (pa_cons (pe_int) (pa_cons (pe_tup (pa_cons (pe_tup (pa_cons (pe_str) (pa_cons (pe_int) pa_nil))) (pa_cons (pe_tup (pa_cons (pe_str) (pa_cons (pe_int) pa_nil))) pa_nil))) pa_nil)))) pa_nil)))))
      (pss_cons (ps_set (i := 1) scLOdd.nd rfl (.inl rfl) (pe_op op_cat (pv 1) (peLstB (pa_cons (pe_tup (pa_cons (pe_non) (pa_cons (pe_int) pa_nil))) (pa_cons (pe_tup (pa_cons (peLstB (pa_nil)) (pa_cons (pe_int) pa_nil))) (pa_cons (pe_tup (pa_cons (pe_dnewK) (pa_cons (pe_int) pa_nil))) pa_nil))))))
      (pss_cons (ps_set (i := 1) scLOdd.nd rfl (.inl rfl) (pe_op op_cat (pv 1) (peLstB (pa_cons (pe_tup (pa_cons (pe_str) (pa_cons (pe_int) (pa_cons (pe_tup (pa_cons (pe_tup (pa_cons (pe_str) (pa_cons (pe_int) (pa_cons (pe_tup (pa_cons (pe_tup (pa_cons (pe_str) (pa_cons (pe_int) pa_nil))) pa_nil)) pa_nil)))) pa_nil)) pa_nil)))) (pa_cons (pe_tup (pa_cons (pe_str) (pa_cons (pe_str) (pa_cons (pe_tup (pa_cons (pe_tup (pa_cons (pe_str) (pa_cons (pe_int) pa_nil))) pa_nil)) pa_nil)))) pa_nil)))))
      (pss_cons (ps_set (i := 1) scLOdd.nd rfl (.inl rfl) (pe_op op_cat (pv 1) (peLstB (pa_cons (pe_tup (pa_cons (pe_str) (pa_cons (pe_int) (pa_cons (pe_non) pa_nil)))) pa_nil))))
      (pss_cons (ps_set (i := 1) scLOdd.nd rfl (.inl rfl) (pe_op op_cat (pv 1) (peLstB (pa_cons (pe_tup (pa_cons (pe_str) (pa_cons (pe_int) (pa_cons (pe_tup (pa_cons (pe_tup (pa_cons (pe_str) (pa_cons (pe_int) pa_nil))) pa_nil)) (pa_cons (pe_int) pa_nil))))) (pa_cons (pe_tup (pa_cons (pe_str) (pa_cons (pe_int) (pa_cons (pe_tup (pa_cons (pe_tup (pa_cons (pe_str) (pa_cons (pe_bl) pa_nil))) pa_nil)) pa_nil)))) pa_nil)))))
      (pss_cons (ps_set (i := 1) scLOdd.nd rfl (.inl rfl) (pe_op op_cat (pv 1) (peLstB (pa_cons (pe_tup (pa_cons (pe_str) (pa_cons (pe_int) (pa_cons (pe_tup (pa_cons (peLstB (pa_cons (pe_str) (pa_cons (pe_int) pa_nil))) pa_nil)) pa_nil)))) pa_nil))))
      (pss_cons (ps_set (i := 1) scLOdd.nd rfl (.inl rfl) (pe_op op_cat (pv 1) (peLstB (pa_cons (pe_tup (pa_cons (pe_str) (pa_cons (pe_str) pa_nil))) (pa_cons (pe_tup (pa_cons (pe_str) (pa_cons (pe_non) pa_nil))) (pa_cons (pe_tup (pa_cons (pe_str) (pa_cons (pe_op op_pow (pe_int) (pe_int)) pa_nil))) pa_nil))))))
      (pss_cons (ps_set (i := 1) scLOdd.nd rfl (.inl rfl) (pe_op op_cat (pv 1) (peLstB (pa_cons (pe_tup (pa_cons (pe_str) (pa_cons (pe_int) (pa_cons (pe_tup (pa_cons (pe_tup (pa_cons (pe_str) (pa_cons (pe_non) pa_nil))) pa_nil)) pa_nil)))) (pa_cons (pe_tup (pa_cons (pe_str) (pa_cons (pe_str) pa_nil))) pa_nil)))))
      (pss_one (ps_ret (pe_ix (ixL (K := K)) (pv 1) (pcall T.d_law_draw G_law_draw (hr.mono (by decide)) (by rfl) pass0 (pa_cons (pv 0) (pa_cons (pe_callB (callLn (K := K)) (by rfl) T.len (by decide +kernel) (pa_cons (pv 1) pa_nil)) pa_nil))) (fun _ _ => rfl))))))))))))))))))))))), ?_⟩
    apply lx_first (K := K)
    · walk_at "lit"
    · decide
    intro F xs H1 s1 n1 e1 d1
    apply lx_next (K := K) (Nat.le_of_ble_eq_true rfl) s1 e1 d1
    · walk_at "lit"
    · decide
    clear s1 n1 e1 d1 F xs H1
    intro F xs H1 s1 n1 e1 d1
    apply lx_next (K := K) (Nat.le_of_ble_eq_true rfl) s1 e1 d1
    · walk_at "lit"
    · decide
    clear s1 n1 e1 d1 F xs H1
    intro F xs H1 s1 n1 e1 d1
    apply lx_next (K := K) (Nat.le_of_ble_eq_true rfl) s1 e1 d1
    · walk_at "lit"
    · decide
    clear s1 n1 e1 d1 F xs H1
    intro F xs H1 s1 n1 e1 d1
    apply lx_next (K := K) (Nat.le_of_ble_eq_true rfl) s1 e1 d1
    · walk_at "lit"
    · decide
    clear s1 n1 e1 d1 F xs H1
    intro F xs H1 s1 n1 e1 d1
    apply lx_next (K := K) (Nat.le_of_ble_eq_true rfl) s1 e1 d1
    · walk_at "lit"
    · decide
    clear s1 n1 e1 d1 F xs H1
    intro F xs H1 s1 n1 e1 d1
    apply lx_next (K := K) (Nat.le_of_ble_eq_true rfl) s1 e1 d1
    · walk_at "lit"
    · decide
    clear s1 n1 e1 d1 F xs H1
    intro F xs H1 s1 n1 e1 d1
    apply lx_next (K := K) (Nat.le_of_ble_eq_true rfl) s1 e1 d1
    · walk_at "lit"
    · decide
    clear s1 n1 e1 d1 F xs H1
    intro F xs H1 s1 n1 e1 d1
    apply lx_next (K := K) (Nat.le_of_ble_eq_true rfl) s1 e1 d1
    · walk_at "lit"
    · decide
    clear s1 n1 e1 d1 F xs H1
    intro F xs H1 s1 n1 e1 d1
    apply lx_next (K := K) (Nat.le_of_ble_eq_true rfl) s1 e1 d1
    · walk_at "lit"
    · decide
    clear s1 n1 e1 d1 F xs H1
    intro F xs H1 s1 n1 e1 d1
    apply lx_next (K := K) (Nat.le_of_ble_eq_true rfl) s1 e1 d1
    · walk_at "lit"
    · decide
    clear s1 n1 e1 d1 F xs H1
    intro F xs H1 s1 n1 e1 d1
    apply lx_next (K := K) (Nat.le_of_ble_eq_true rfl) s1 e1 d1
    · walk_at "lit"
    · decide
    clear s1 n1 e1 d1 F xs H1
    intro F xs H1 s1 n1 e1 d1
    apply lx_next (K := K) (Nat.le_of_ble_eq_true rfl) s1 e1 d1
    · walk_at "lit"
    · decide
    clear s1 n1 e1 d1 F xs H1
    intro F xs H1 s1 n1 e1 d1
    apply lx_next (K := K) (Nat.le_of_ble_eq_true rfl) s1 e1 d1
    · walk_at "lit"
    · decide
    clear s1 n1 e1 d1 F xs H1
    intro F xs H1 s1 n1 e1 d1
    apply lx_next (K := K) (Nat.le_of_ble_eq_true rfl) s1 e1 d1
    · walk_at "lit"
    · decide
    clear s1 n1 e1 d1 F xs H1
    intro F xs H1 s1 n1 e1 d1
    apply lx_next (K := K) (Nat.le_of_ble_eq_true rfl) s1 e1 d1
    · walk_at "lit"
    · decide
    clear s1 n1 e1 d1 F xs H1
    intro F xs H1 s1 n1 e1 d1
    apply lx_next (K := K) (Nat.le_of_ble_eq_true rfl) s1 e1 d1
    · walk_at "lit"
    · decide
    clear s1 n1 e1 d1 F xs H1
    intro F xs H1 s1 n1 e1 d1
    apply lx_next (K := K) (Nat.le_of_ble_eq_true rfl) s1 e1 d1
    · walk_at "lit"
    · decide
    clear s1 n1 e1 d1 F xs H1
    intro F xs H1 s1 n1 e1 d1
    apply lx_next (K := K) (Nat.le_of_ble_eq_true rfl) s1 e1 d1
    · walk_at "lit"
    · decide
    clear s1 n1 e1 d1 F xs H1
    intro F xs H1 s1 n1 e1 d1
    apply lx_next (K := K) (Nat.le_of_ble_eq_true rfl) s1 e1 d1
    · walk_at "lit"
    · decide
    clear s1 n1 e1 d1 F xs H1
    intro F xs H1 s1 n1 e1 d1
    have st : Stp p H H1 := .of pool s1
    have de := lx_end (f := oddB) (n := 59) d1 (by decide +kernel) (by decide +kernel)
    clear d1
    obtain ⟨hl, hok⟩ := de
    walk_at "go"
    refine c_lnL (.inl (.inl e1)) ?_
    walk_at "go"
    refine c_draw st.q (by omega) (by omega) fun r H2 r0 r1 s2 => ?_
    have st2 := st.trans s2
    have ne := pool.ne n1
    have e2 := s2.at e1 ne
    refine c_ixL (.inl (.inl e2)) r.toNat (by omega) (List.getElem?_eq_getElem (by omega)) ?_
    obtain ⟨d, hv, hd⟩ := hok r.toNat _ (List.getElem?_eq_getElem (by omega))
    exact q _ d H2 st2 (hv.mono (nw_stp pool s2)) hd
end
end Und
namespace Und
open PySem PySem.Spec PyProof.Rows L2
local macro_rules | `(tactic| walk_at "side") => `(tactic| first | decide | omega | exact ⟨by omega, by omega⟩ | (show (0 : Int) < _; omega) | (exact Or.inl ⟨by omega, by omega⟩) | (exact Or.inr ⟨by omega, by omega⟩) | (exact sz (by simp)) | (exact szl (by simp)))
local macro_rules | `(tactic| walk_at "u") => `(tactic| first
  | with_reducible refine c_seq ?_ | with_reducible refine c_next ?_ | with_reducible refine c_yes ?_ | with_reducible refine c_asg ?_ | with_reducible refine c_asg2 ?_ | with_reducible refine c_par ?_ | with_reducible refine c_two ?_ | with_reducible refine c_g ?_ | with_reducible refine c_gsub ?_ | with_reducible refine c_gcons ?_ | with_reducible refine c_gnil ?_ | with_reducible refine c_ret ?_ | with_reducible refine c_drop ?_
  | ((with_reducible refine c_var (v := ?v) ?h ?_); (case h => rfl)) | with_reducible refine c_c ?_ | with_reducible refine c_op ?_ | with_reducible refine c_un ?_ | with_reducible refine c_I0 ?_
  | ((with_reducible refine c_I ?h ?_); (case h => walk_at "side"))
  | ((with_reducible refine c_eq ?h ?_); (case h => rfl)) | ((with_reducible refine c_neq ?h ?_); (case h => rfl)) | with_reducible refine c_test ?_ | with_reducible refine c_B ?_ | with_reducible refine c_bl ?_ | with_reducible refine c_int ?_ | with_reducible refine c_ifs ?_ | with_reducible refine c_ife ?_
  | with_reducible refine c_andV ?_ | with_reducible refine c_orV ?_ | with_reducible refine c_notV ?_ | with_reducible refine c_and ?_ | with_reducible refine c_or ?_ | with_reducible refine c_not ?_
  | with_reducible refine c_call ?_ | with_reducible refine c_cb ?_ | with_reducible refine c_nil ?_ | with_reducible refine c_cons ?_
  | with_reducible refine c_tup ?_ | with_reducible refine c_lst ?_ | with_reducible refine c_sl ?_ | with_reducible refine c_nop ?_ | with_reducible refine c_part ?_ | with_reducible refine c_fld ?_
  | with_reducible refine c_for ?_ | with_reducible refine c_ilist ?_ | with_reducible refine c_itup ?_ | with_reducible refine c_irng1 ?_ | with_reducible refine c_lc ?_
  | with_reducible refine c_m1 ?_ | with_reducible refine c_isS ?_ | with_reducible refine c_chain ?_ | with_reducible refine c_str ?_ | with_reducible refine c_make ?_ | with_reducible refine c_meth ?_ | with_reducible refine c_prop ?_ | with_reducible refine c_sfld ?_ | with_reducible refine c_ienumT ?_ | with_reducible refine iteT ?_ | with_reducible refine iteF ?_ | with_reducible refine iteNT ?_ | with_reducible refine iteNF ?_
  | ((with_reducible refine iteDT ?h ?_); (case h => first | rfl | omega)) | ((with_reducible refine iteDF ?h ?_); (case h => first | omega | (intro z; cases z; done))) | ((with_reducible refine iteNDT ?h ?_); (case h => first | rfl | omega)) | ((with_reducible refine iteNDF ?h ?_); (case h => first | omega | (intro z; cases z; done))))
local macro_rules | `(tactic| walk_at "go") => `(tactic| repeat (walk_at "u"))
local macro_rules | `(tactic| walk_at "u") => `(tactic| first | with_reducible refine c_m0 ?_ | with_reducible refine c_orT ?_)
/-! ### what stays when a list is changed -/
section
variable {K : PySem.W.Frag} {H H' : Hp} {p a : Addr} {l : List V} {o : HO}
theorem mutS : Same (hid p H) (upd H p o) := fun b x e => by
  unfold hid at e
  by_cases h : b = p
  · rw [if_pos h] at e
    cases e
  · rw [if_neg h] at e
    rw [upd_ne h]
    exact e
theorem hid_at {x : HO} (e : H a = some x) (ne : a ≠ p) : hid p H a = some x := (hid_ne ne).trans e
theorem sqT_hid {xs : List V} (e : H p = some (.lst l)) (h : SqT K H a xs) : SqT K (hid p H) a xs := by
  have ne : ∀ {x : HO}, H a = some x → (∀ z, x ≠ .lst z) → a ≠ p := fun e1 k h => by
    rw [h, e] at e1
    exact k _ (Option.some.inj e1).symm
  rcases h with (h | ⟨o, h⟩) | h
  · exact .inl (.inl (hid_at h (ne h fun z k => by cases k)))
  · exact .inl (.inr ⟨o, hid_at h (ne h fun z k => by cases k)⟩)
  · exact .inr h
theorem MvAt.hid {v : V} {m : Mv} (e : H p = some (.lst l)) (h : MvAt K H v m) : MvAt K (Und.hid p H) v m := by
  obtain ⟨a, x, e1, h1, h2⟩ := h
  exact ⟨a, x, e1, sqT_hid e h1, h2⟩
theorem All2.mutA {o : HO} {vs : List V} {ms : List Mv} (h : All2 (MvAt K H) vs ms) (e : H p = some (.lst l)) : All2 (MvAt K (upd H p o)) vs ms := h.imp fun _ _ z => (MvAt.hid e z).mono mutS
end
section
variable {P : Program} {w : World} {K : PySem.W.Frag} {mg : Str → Option Value} {base : Heap}
theorem strNe {y z : Str} (h : y ≠ z) : decide (V.str y = V.str z) = false := decide_eq_false fun e => h (V.str.inj e)
def spNumIn : Sp := fun vs H Q _ => ∃ n : Int, vs = [.str (nt n)] ∧ 1 ≤ n ∧ n < 10 ^ 500 ∧ Q (.int n) H
theorem ok_number_in (T : TX K mg) : FnOk P w K mg base CX0 1 T.f_number_in T.fd_number_in pNumIn spNumIn := by
  refine T.d_number_in.F.ok scNumIn (fun vs H Q E h => ?_) (fun cdv A outer s H vs Q E hr h => ?_)
  · obtain ⟨n, rfl, _⟩ := h
    rfl
  · obtain ⟨n, rfl, h1, h2, q⟩ := h
    refine ⟨_, pss_cons (ps_if (PW.pt (pw_and (pt_val (pe_m0 PySem.F.slot_str_isascii PySem.F.type_str_isascii mrAscii (pv 0))) (pw_and (pt_val (pe_m0 PySem.F.slot_str_isdigit PySem.F.type_str_isdigit mrDigit (pv 0))) (pw_and1 (pt_cmpR op_ne (pe_ix ix_str (pv 0) (pe_int) (fun _ _ => rfl)) (pe_str) (nomark _)))))) (pss_one (ps_ret (pe_callTy callIntS (by rfl) T.int (by decide +kernel) (pa_cons (pv 0) pa_nil)))) (pss_nil))
      (pss_one (ps_ret (pe_int))), ?_⟩
    walk_at "go"
    refine c_rMB (nt_isascii h1) ?_
    walk_at "go"
    refine c_rMB (nt_isdigit h1) ?_
    walk_at "go"
    obtain ⟨c, r, ec, hc⟩ := nt_fst h1
    have hl := nt_len (by omega) h2
    refine c_ixS (by omega) 0 rfl (by rw [ec]; rfl) ?_
    walk_at "go"
    rw [strNe (y := ⟨#[c]⟩) (z := Str.ofString "0") (fun e => by
      have := congrArg (fun s : Str => s.cps.toList) e
      have e0 : (Str.ofString "0").cps.toList = [48] := by decide +kernel
      rw [e0] at this
      have := (List.cons.inj this).1
      omega)]
    walk_at "go"
    refine c_intS (nt_reads h1 h2) (by omega) ?_
    exact q
/-- the amount of a text -/
def amV : Option Int → V
  | none => .non
  | some n => .int n
theorem amV_of {am : Option Int} (h : AmOk am) : AmOf (amV am) am := by
  cases am with
  | none => trivial
  | some n => exact ⟨rfl, h.1⟩
def spStepIn (K : PySem.W.Frag) : Sp := fun vs H Q _ => ∃ y z : Str, vs = [.str y, .str z] ∧
  ((∃ m : Mv, y = wdM m.1 ∧ z = amT m.2 ∧ MvOk m ∧ ∀ t H', Same H H' → H' t = some (.tup [.str (wdM m.1), amV m.2]) → Q (.ref t) H') ∨ (∃ n : Int, y = nt n ∧ 1 ≤ n ∧ Q .non H))
theorem ok_step_in (T : TX K mg) : FnOk P w K mg base CX0 2 T.f_step_in T.fd_step_in pStepIn (spStepIn K) := by
  have G_number_in := ok_number_in (P := P) (w := w) (base := base) T
  refine T.d_step_in.F.ok scStepIn (fun vs H Q E h => ?_) (fun cdv A outer s H vs Q E hr h => ?_)
  · obtain ⟨y, z, rfl, _⟩ := h
    rfl
  · obtain ⟨y, z, rfl, h⟩ := h
    refine ⟨_, pss_cons (ps_if (PW.pt (pw_and (pt_cmpR op_ne (pv 0) (pe_str) (nomark _)) (pw_and1 (pt_cmpR op_ne (pv 0) (pe_str) (nomark _))))) (pss_one (ps_ret (pe_non))) (pss_nil))
      (pss_cons (ps_if (pt_cmpR op_eq (pv 1) (pe_str) (nomark _)) (pss_one (ps_ret (pe_tup (pa_cons (pv 0) (pa_cons (pe_non) pa_nil))))) (pss_nil))
      (pss_cons (ps_set (i := 2) scStepIn.nd rfl (.inl rfl) (pcall T.d_number_in G_number_in (hr.mono (by decide)) (by rfl) pass0 (pa_cons (pv 1) pa_nil)))
      (pss_one (ps_ret (pe_ifExp (pt_cmpR op_gt (pv 2) (pe_int) (nomark _)) (pe_tup (pa_cons (pv 0) (pa_cons (pv 2) pa_nil))) (pe_non)))))), ?_⟩
    walk_at "go"
    rcases h with ⟨m, rfl, rfl, hm, q⟩ | ⟨n, rfl, hn, q⟩
    · obtain ⟨b, am⟩ := m
      cases am with
      | none =>
        cases b with
        | true =>
          walk_at "go"
          refine c_newT (by simp) fun t H1 nt1 s1 e1 => ?_
          exact q t H1 s1 e1
        | false =>
          walk_at "go"
          refine c_newT (by simp) fun t H1 nt1 s1 e1 => ?_
          exact q t H1 s1 e1
      | some n =>
        have hn : 1 ≤ n ∧ n < 10 ^ 500 := hm
        have hne := (nt_ne hn.1).2.2.2
        have hl := nt_len (by omega) hn.2
        cases b with
        | true =>
          walk_at "go"
          rw [show decide (V.str (amT (true, some n).snd) = V.str (Str.ofString "all")) = false from strNe hne]
          walk_at "go"
          refine ⟨n, rfl, hn.1, hn.2, ?_⟩
          walk_at "go"
          refine c_newT (by simp) fun t H1 nt1 s1 e1 => ?_
          exact q t H1 s1 e1
        | false =>
          walk_at "go"
          rw [show decide (V.str (amT (false, some n).snd) = V.str (Str.ofString "all")) = false from strNe hne]
          walk_at "go"
          refine ⟨n, rfl, hn.1, hn.2, ?_⟩
          walk_at "go"
          refine c_newT (by simp) fun t H1 nt1 s1 e1 => ?_
          exact q t H1 s1 e1
    · have hne := nt_ne hn
      rw [strNe hne.1]
      walk_at "go"
      rw [strNe hne.2.1]
      walk_at "go"
      exact q
theorem sepC_eq : Str.ofString ", " = sepC := by decide +kernel
theorem sepS_eq : Str.ofString "; " = sepS := by decide +kernel
theorem sp1_eq : Str.ofString " " = sp1 := by decide +kernel
theorem len_jc (a b : Nat) : ∀ (xs : List Str) (x : Str), x ∈ xs → x.cps.toList.length ≤ (jc a b xs).length
  | [], x, h => by cases h
  | [y], x, h => by
    have : x = y := by simpa using h
    rw [jc_one, this]
    exact Nat.le_refl _
  | y :: z :: r, x, h => by
    rw [jc_cons, List.length_append, List.length_cons, List.length_cons]
    rcases List.mem_cons.mp h with rfl | h
    · omega
    · have := len_jc a b (z :: r) x h
      omega
theorem len_join {a b : Nat} {xs : List Str} {x : Str} (h : x ∈ xs) : x.length ≤ (Txt.join ⟨#[a, b]⟩ xs).length := by
  have := len_jc a b xs x h
  rw [← join_codes', len_codes, len_codes] at this
  exact this
theorem c_bm2 {K' : PySem.W.Frag} {T : String} {r : V → List V → Hp → VK → Prop} {to : TE} {t : TA} {σ : L2.St} {H : Hp} {Q : VK} (h : to σ H fun x H1 => tyV K' T x H1 ∧ t σ H1 fun xs H2 => r x xs H2 Q) : tBM K' T r to t σ H Q := h
theorem c_app2 {a : Addr} {xs : List V} {y : V} {H : Hp} {Q : VK} (e : H a = some (.lst xs)) (z : xs.length < 100000) (h : Q .non (upd H a (.lst (xs ++ [y])))) : rAppend (.ref a) [y] H Q := ⟨a, xs, y, rfl, rfl, e, szl z, h⟩
local macro_rules | `(tactic| walk_at "u") => `(tactic| with_reducible refine c_bm2 ?_)
theorem isN_ref (t : Addr) : decide (V.ref t = V.non) = false := decide_eq_false fun e => by cases e
theorem mv_of {H : Hp} {t : Addr} {m : Mv} (hm : MvOk m) (e : H t = some (.tup [.str (wdM m.1), amV m.2])) : MvAt K H (.ref t) m := ⟨t, _, rfl, .inl (.inl e), amV_of hm⟩
def spRepIn (K : PySem.W.Frag) : Sp := fun vs H Q _ => ∃ (n : Int) (ms : List Mv), vs = [.str (nt n), .str (opnT ++ Txt.join sepC (ms.map mvT) ++ clsT)] ∧ CmdOk (.rep n ms) ∧ ms.length ≤ 1000 ∧ (opnT ++ Txt.join sepC (ms.map mvT) ++ clsT).length ≤ 100000 ∧
  ∀ t H', Same H H' → CmdAt K H' (.ref t) (.rep n ms) → (∃ x xs, SqT K H' t (x :: xs)) → Q (.ref t) H'
theorem ok_repeat_in (T : TX K mg) : FnOk P w K mg base CX0 3 T.f_repeat_in T.fd_repeat_in pRepIn (spRepIn K) := by
  have G_number_in := ok_number_in (P := P) (w := w) (base := base) T
  have G_step_in := ok_step_in (P := P) (w := w) (base := base) T
  refine T.d_repeat_in.F.ok scRepIn (fun vs H Q E h => ?_) (fun cdv A outer s H vs Q E hr h => ?_)
  · obtain ⟨n, ms, rfl, _⟩ := h
    rfl
  · obtain ⟨n, ms, rfl, ⟨h1, h2, h3, h4⟩, hl, hz, q⟩ := h
    obtain ⟨m0, ms0, rfl⟩ : ∃ m0 ms0, ms = m0 :: ms0 := List.exists_cons_of_ne_nil h3
    refine ⟨_, pss_cons (ps_set (i := 2) scRepIn.nd rfl (.inl rfl) (pcall T.d_number_in G_number_in (hr.mono (by decide)) (by rfl) pass0 (pa_cons (pv 0) pa_nil)))
      (pss_cons (ps_if (PW.pt (pw_or (pt_cmpR op_eq (pv 2) (pe_int) (nomark _)) (pw_or (pt_not (pt_val (pe_m1 PySem.F.slot_str_startswith PySem.F.type_str_startswith mrStartswith (pv 1) (peGlobS rfl T.mBEFORE_STEPS)))) (pw_or1 (pt_not (pt_val (pe_m1 PySem.F.slot_str_endswith PySem.F.type_str_endswith mrEndswith (pv 1) (peGlobS rfl T.mAFTER_STEPS)))))))) (pss_one (ps_ret (pe_non))) (pss_nil))
      (pss_cons (ps_set (i := 3) scRepIn.nd rfl (.inl rfl) (pe_lst (pa_nil)))
      (pss_cons (ps_for PassesOwn.never rfl (piList (K := K) (peSplit (pe_slice sl_str (pv 1) (po_some (pe_callB callLnS (by rfl) T.len (by decide +kernel) (pa_cons (peGlobS rfl T.mBEFORE_STEPS) pa_nil))) (po_some (pe_un un_neg (pe_callB callLnS (by rfl) T.len (by decide +kernel) (pa_cons (peGlobS rfl T.mAFTER_STEPS) pa_nil))))) (pe_str))) (pg_name (i := 4) scRepIn.nd rfl (.inl rfl))
        (pss_cons (ps_asg (pePartition (pv 4) (pe_str)) (pgTup (K := K) (n := 3) (by rfl) (pgs_cons (pg_name (i := 5) scRepIn.nd rfl (.inl rfl)) (pgs_cons (pg_name (i := 6) scRepIn.nd rfl (.inl rfl)) (pgs_cons (pg_name (i := 7) scRepIn.nd rfl (.inl rfl)) pgs_nil)))))
      (pss_cons (ps_set (i := 8) scRepIn.nd rfl (.inl rfl) (pcall T.d_step_in G_step_in (hr.mono (by decide)) (by rfl) pass0 (pa_cons (pv 5) (pa_cons (pv 7) pa_nil))))
      (pss_cons (ps_if (pt_cmpR op_isN (pv 8) (pe_non) (nomark _)) (pss_one (ps_ret (pe_non))) (pss_nil))
      (pss_one (ps_expr (pe_bm PySem.F.plainAttrs_list PySem.F.slot_list_append PySem.F.type_list_append mt_append (pv 3) (pa_cons (pv 8) pa_nil))))))))
      (pss_one (ps_ret (pe_tup (pa_cons (pe_str) (pa_cons (pv 2) (pa_cons (pe_callTy (callTupOf (K := K)) (by rfl) T.tuple (by decide +kernel) (pa_cons (pv 3) pa_nil)) pa_nil))))))))), ?_⟩
    walk_at "go"
    refine ⟨n, rfl, h1, h2, ?_⟩
    walk_at "go"
    rw [decide_eq_false (fun z => by have := V.int.inj z; omega : ¬ V.int n = V.int 0)]
    walk_at "go"
    refine c_rMS (steps_starts _) ?_
    walk_at "go"
    refine c_rMS (steps_ends _) ?_
    walk_at "go"
    refine c_newL (by simp) fun S H1 nS s1 eS => ?_
    walk_at "go"
    refine c_lnS (by rw [opn_len]; decide) ?_
    rw [opn_len]
    walk_at "go"
    refine c_lnS (by rw [cls_len]; decide) ?_
    rw [cls_len]
    walk_at "go"
    refine ⟨1, rfl, ?_⟩
    refine ⟨-1, rfl, ?_⟩
    refine c_slS hz ?_
    rw [show ((7 : Nat) : Int) = 7 from rfl, steps_cut]
    walk_at "go"
    rw [sepC_eq]
    have hj : (Txt.join sepC ((m0 :: ms0).map mvT)).length ≤ 100000 := by
      have := PySem.Str.length_append (opnT ++ Txt.join sepC ((m0 :: ms0).map mvT)) clsT
      have := PySem.Str.length_append opnT (Txt.join sepC ((m0 :: ms0).map mvT))
      omega
    refine c_split (cut_steps m0 ms0 h4) (by decide) hj fun p H2 np s2 ep => ?_
    have pS : p ≠ S := fun z => by
      rw [z, eS] at np
      cases np
    refine ⟨p, rfl, ⟨_, .inl (.inl ep)⟩, ?_⟩
    generalize hms : m0 :: ms0 = ms at *
    refine for_list (xs := (ms.map mvT).map V.str) (fun i σ H' => ∃ (us : List V) (y4 y5 y6 y7 y8 : Option V), σ = [some (.str (nt n)), some (.str (opnT ++ Txt.join sepC (ms.map mvT) ++ clsT)), some (.int n), some (.ref S), y4, y5, y6, y7, y8] ∧ Same H H' ∧ H' p = some (.lst ((ms.map mvT).map V.str)) ∧ H' S = some (.lst us) ∧ All2 (MvAt K H') us (ms.take i))
      ⟨[], _, _, _, _, _, rfl, s1.trans s2, ep, s2 _ _ eS, All2.nil⟩ (fun i σ H' _ h => ?_) (fun i x σ H' hx h => ?_) (fun σ H' h => ?_)
    · obtain ⟨us, y4, y5, y6, y7, y8, rfl, sx, e1, e2, hA⟩ := h
      exact .inl (.inl e1)
    · obtain ⟨us, y4, y5, y6, y7, y8, rfl, sx, e1, e2, hA⟩ := h
      obtain ⟨m, em, rfl⟩ : ∃ m, ms[i]? = some m ∧ x = .str (mvT m) := by
        rw [List.getElem?_map, List.getElem?_map] at hx
        cases e : ms[i]? with
        | none => rw [e] at hx; cases hx
        | some m =>
          rw [e] at hx
          exact ⟨m, rfl, (Option.some.inj hx).symm⟩
      have hmem := List.mem_of_getElem? em
      have hok := h4 m hmem
      have hs : ms.take (i + 1) = ms.take i ++ [m] := by
        rw [List.take_succ, em]
        rfl
      have hlen : (mvT m).length ≤ 100000 := Nat.le_trans (len_join (List.mem_map_of_mem hmem)) hj
      walk_at "go"
      rw [sp1_eq]
      refine c_part1 (part_mv m) (by decide) hlen fun tp H3 np3 s3 e3 => ?_
      walk_at "go"
      refine c_gtup (.inl (.inl e3)) rfl ?_
      walk_at "go"
      refine ⟨_, _, rfl, .inl ⟨m, rfl, rfl, hok, fun t H4 s4 e4 => ?_⟩⟩
      walk_at "go"
      refine ⟨rfl, ?_⟩
      rw [isN_ref]
      walk_at "go"
      have s34 := s3.trans s4
      refine ⟨.inl ⟨rfl, us, .inl (.inl (s34 _ _ e2))⟩, ?_⟩
      walk_at "go"
      have hul := hA.1
      rw [List.length_take] at hul
      refine c_app2 (s34 _ _ e2) (by omega) ?_
      have eS4 := s34 _ _ e2
      refine ⟨us ++ [.ref t], _, _, _, _, _, rfl, Same.mut (sx.trans s34) nS, ?_, upd_same, ?_⟩
      · rw [upd_ne pS]
        exact s34 _ _ e1
      · rw [hs]
        exact ((hA.imp fun _ _ => MvAt.mono s34).app (All2.one (mv_of hok e4))).mutA eS4
    · obtain ⟨us, y4, y5, y6, y7, y8, rfl, sx, e1, e2, hA⟩ := h
      rw [List.length_map, List.length_map, List.take_length] at hA
      walk_at "go"
      refine c_tupOfL (.inl (.inl e2)) fun t1 H3 n3 s3 e3 => ?_
      walk_at "go"
      refine c_newT (by simp) fun t H4 n4 s4 e4 => ?_
      have s34 := s3.trans s4
      have hpos : 1 ≤ ms.length := by rw [← hms]; exact Nat.succ_le_succ (Nat.zero_le _)
      exact q t H4 (sx.trans s34) ⟨t, t1, us, rfl, .inl (.inl e4), .inl (.inl (s4 _ _ e3)), hA.imp fun _ _ => MvAt.mono s34, h1, hpos, hl⟩ ⟨_, _, .inl (.inl e4)⟩
def spCmdIn (K : PySem.W.Frag) : Sp := fun vs H Q _ => ∃ c : Cmd, vs = [.str (cmT c)] ∧ CmdOk c ∧ (∀ n ms, c = .rep n ms → ms.length ≤ 1000) ∧ (cmT c).length ≤ 100000 ∧ ∀ t H', Same H H' → CmdAt K H' (.ref t) c → Q (.ref t) H'
theorem ok_command_in (T : TX K mg) : FnOk P w K mg base CX0 4 T.f_command_in T.fd_command_in pCmdIn (spCmdIn K) := by
  have G_step_in := ok_step_in (P := P) (w := w) (base := base) T
  have G_repeat_in := ok_repeat_in (P := P) (w := w) (base := base) T
  have G_is_name := ok_is_name (P := P) (w := w) (base := base) T
  refine T.d_command_in.F.ok scCmdIn (fun vs H Q E h => ?_) (fun cdv A outer s H vs Q E hr h => ?_)
  · obtain ⟨c, rfl, _⟩ := h
    rfl
  · obtain ⟨c, rfl, hc, hm, hl, q⟩ := h
    refine ⟨_, pss_cons (ps_asg (pePartition (pv 0) (pe_str)) (pgTup (K := K) (n := 3) (by rfl) (pgs_cons (pg_name (i := 1) scCmdIn.nd rfl (.inl rfl)) (pgs_cons (pg_name (i := 2) scCmdIn.nd rfl (.inl rfl)) (pgs_cons (pg_name (i := 3) scCmdIn.nd rfl (.inl rfl)) pgs_nil)))))
      (pss_cons (ps_if (pt_cmpR op_eq (pv 1) (pe_str) (nomark _)) (pss_one (ps_ret (pe_ifExp (pt_val (pcall T.d_is_name G_is_name (hr.mono (by decide)) (by rfl) pass0 (pa_cons (pv 3) pa_nil))) (pe_tup (pa_cons (pe_str) (pa_cons (pv 3) pa_nil))) (pe_non)))) (pss_nil))
      (pss_one (ps_ret (peOrT (K := K) (pcall T.d_step_in G_step_in (hr.mono (by decide)) (by rfl) pass0 (pa_cons (pv 1) (pa_cons (pv 3) pa_nil))) (pe_one (pcall T.d_repeat_in G_repeat_in (hr.mono (by decide)) (by rfl) pass0 (pa_cons (pv 1) (pa_cons (pv 3) pa_nil)))))))), ?_⟩
    walk_at "go"
    rw [sp1_eq]
    cases c with
    | dd z =>
      refine c_part1 part_do (by decide) hl fun tp H1 n1 s1 e1 => ?_
      refine c_gtup (.inl (.inl e1)) rfl ?_
      walk_at "go"
      refine ⟨z, rfl, hc, fun H2 s2 => ?_⟩
      walk_at "go"
      refine c_newT (by simp) fun t H3 n3 s3 e3 => ?_
      exact q t H3 ((s1.trans s2).trans s3) ⟨t, rfl, .inl (.inl e3), hc⟩
    | mv m =>
      refine c_part1 (part_mv m) (by decide) hl fun tp H1 n1 s1 e1 => ?_
      refine c_gtup (.inl (.inl e1)) rfl ?_
      have hok : MvOk m := hc
      obtain ⟨b, am⟩ := m
      cases b with
      | true =>
        walk_at "go"
        refine ⟨_, _, rfl, .inl ⟨(true, am), rfl, rfl, hok, fun t H4 s4 e4 => ?_⟩⟩
        refine c_truT (.inl (.inl e4)) ?_
        exact q t H4 (s1.trans s4) (mv_of hok e4)
      | false =>
        walk_at "go"
        refine ⟨_, _, rfl, .inl ⟨(false, am), rfl, rfl, hok, fun t H4 s4 e4 => ?_⟩⟩
        refine c_truT (.inl (.inl e4)) ?_
        exact q t H4 (s1.trans s4) (mv_of hok e4)
    | rep n ms =>
      have hn : 1 ≤ n := hc.1
      refine c_part1 (part_rep ms (by omega)) (by decide) hl fun tp H1 n1 s1 e1 => ?_
      refine c_gtup (.inl (.inl e1)) rfl ?_
      walk_at "go"
      rw [strNe (nt_ne hn).2.2.1]
      walk_at "go"
      refine ⟨_, _, rfl, .inr ⟨n, rfl, hn, ?_⟩⟩
      refine c_truN ?_
      walk_at "go"
      have hlen : (opnT ++ Txt.join sepC (ms.map mvT) ++ clsT).length ≤ 100000 := by
        have := PySem.Str.length_append (nt n ++ sp1) (opnT ++ Txt.join sepC (ms.map mvT) ++ clsT)
        have e : (cmT (.rep n ms)).length = _ := this
        omega
      exact ⟨n, ms, rfl, hc, hm n ms rfl, hlen, fun t H4 s4 hC _ => q t H4 (s1.trans s4) hC⟩
end
end Und
set_option exponentiation.threshold 2000
namespace Und
open PySem PySem.Spec PyProof.Rows L2
local macro_rules | `(tactic| walk_at "side") => `(tactic| first | decide | omega | exact ⟨by omega, by omega⟩ | (show (0 : Int) < _; omega) | (exact Or.inl ⟨by omega, by omega⟩) | (exact Or.inr ⟨by omega, by omega⟩) | (exact sz (by simp)) | (exact szl (by simp)))
local macro_rules | `(tactic| walk_at "u") => `(tactic| first
  | with_reducible refine c_seq ?_ | with_reducible refine c_next ?_ | with_reducible refine c_yes ?_ | with_reducible refine c_asg ?_ | with_reducible refine c_asg2 ?_ | with_reducible refine c_par ?_ | with_reducible refine c_two ?_ | with_reducible refine c_g ?_ | with_reducible refine c_gsub ?_ | with_reducible refine c_gcons ?_ | with_reducible refine c_gnil ?_ | with_reducible refine c_ret ?_ | with_reducible refine c_drop ?_
  | ((with_reducible refine c_var (v := ?v) ?h ?_); (case h => rfl)) | with_reducible refine c_c ?_ | with_reducible refine c_op ?_ | with_reducible refine c_un ?_ | with_reducible refine c_I0 ?_
  | ((with_reducible refine c_I ?h ?_); (case h => walk_at "side"))
  | ((with_reducible refine c_eq ?h ?_); (case h => rfl)) | ((with_reducible refine c_neq ?h ?_); (case h => rfl)) | with_reducible refine c_test ?_ | with_reducible refine c_B ?_ | with_reducible refine c_bl ?_ | with_reducible refine c_int ?_ | with_reducible refine c_ifs ?_ | with_reducible refine c_ife ?_
  | with_reducible refine c_andV ?_ | with_reducible refine c_orV ?_ | with_reducible refine c_notV ?_ | with_reducible refine c_and ?_ | with_reducible refine c_or ?_ | with_reducible refine c_not ?_
  | with_reducible refine c_call ?_ | with_reducible refine c_cb ?_ | with_reducible refine c_nil ?_ | with_reducible refine c_cons ?_
  | with_reducible refine c_tup ?_ | with_reducible refine c_lst ?_ | with_reducible refine c_sl ?_ | with_reducible refine c_nop ?_ | with_reducible refine c_part ?_ | with_reducible refine c_fld ?_
  | with_reducible refine c_for ?_ | with_reducible refine c_ilist ?_ | with_reducible refine c_itup ?_ | with_reducible refine c_irng1 ?_ | with_reducible refine c_lc ?_
  | with_reducible refine c_m1 ?_ | with_reducible refine c_isS ?_ | with_reducible refine c_chain ?_ | with_reducible refine c_str ?_ | with_reducible refine c_make ?_ | with_reducible refine c_meth ?_ | with_reducible refine c_prop ?_ | with_reducible refine c_sfld ?_ | with_reducible refine c_ienumT ?_ | with_reducible refine iteT ?_ | with_reducible refine iteF ?_ | with_reducible refine iteNT ?_ | with_reducible refine iteNF ?_
  | ((with_reducible refine iteDT ?h ?_); (case h => first | rfl | omega)) | ((with_reducible refine iteDF ?h ?_); (case h => first | omega | (intro z; cases z; done))) | ((with_reducible refine iteNDT ?h ?_); (case h => first | rfl | omega)) | ((with_reducible refine iteNDF ?h ?_); (case h => first | omega | (intro z; cases z; done))))
local macro_rules | `(tactic| walk_at "go") => `(tactic| repeat (walk_at "u"))
local macro_rules | `(tactic| walk_at "u") => `(tactic| first | with_reducible refine c_par3 ?_ | with_reducible refine c_three ?_ | with_reducible refine c_orT ?_ | with_reducible refine c_bm2 ?_)
section
variable {P : Program} {w : World} {K : PySem.W.Frag} {mg : Str → Option Value} {base : Heap}
theorem p30 : (10 : Int) ^ Int.toNat 30 = 1000000000000000000000000000000 := by decide
theorem lt500 {n : Int} (h : n ≤ 1000000000000000000000000000000) : n < 10 ^ 500 := Int.lt_of_le_of_lt h (by decide)
/-- an amount that is drawn small -/
def AmLim (m : Int) (am : Option Int) : Prop := 0 < m → ∀ k, am = some k → k ≤ m + 3
def spAmnt : Sp := fun vs H Q _ => ∃ (p : Addr) (m : Int), vs = [.ref p, .int m] ∧ Pool H p ∧ 0 ≤ m ∧ m ≤ 1000 ∧ ∀ x am H', Stp p H H' → AmOf x am → AmOk am → AmLim m am → Q x H'
theorem ok_amnt (T : TX K mg) : FnOk P w K mg base CX0 2 T.f_law_amount T.fd_law_amount pAmnt spAmnt := by
  have G_law_draw := ok_draw (P := P) (w := w) (K := K) (base := base) T.d_law_draw T.divmod
  refine T.d_law_amount.F.ok scAmnt (fun vs H Q E h => ?_) (fun cdv A outer s H vs Q E hr h => ?_)
  · obtain ⟨p, m, rfl, _⟩ := h
    rfl
  · obtain ⟨p, m, rfl, pool, m0, m1, q⟩ := h
    refine ⟨_, pss_cons (ps_set (i := 2) scAmnt.nd rfl (.inl rfl) (pcall T.d_law_draw G_law_draw (hr.mono (by decide)) (by rfl) pass0 (pa_cons (pv 0) (pa_cons (pe_int) pa_nil))))
      (pss_cons (ps_if (pt_cmpR op_eq (pv 2) (pe_int) (nomark _)) (pss_one (ps_ret (pe_non))) (pss_nil))
      (pss_cons (ps_if (pt_cmpR op_gt (pv 1) (pe_int) (nomark _)) (pss_one (ps_ret (pe_op op_add (pe_int) (pcall T.d_law_draw G_law_draw (hr.mono (by decide)) (by rfl) pass0 (pa_cons (pv 0) (pa_cons (pv 1) pa_nil)))))) (pss_nil))
      (pss_one (ps_ret (pe_ix (ixL (K := K)) (pe_lst (pa_cons (pe_op op_add (pe_int) (pcall T.d_law_draw G_law_draw (hr.mono (by decide)) (by rfl) pass0 (pa_cons (pv 0) (pa_cons (pe_int) pa_nil)))) (pa_cons (pe_op op_pow (pe_int) (pe_int)) (pa_cons (pe_op op_add (pe_int) (pcall T.d_law_draw G_law_draw (hr.mono (by decide)) (by rfl) pass0 (pa_cons (pv 0) (pa_cons (pe_op op_pow (pe_int) (pe_int)) pa_nil)))) pa_nil)))) (pe_op op_mod (pv 2) (pe_int)) (fun _ _ => rfl)))))), ?_⟩
    walk_at "go"
    refine c_draw pool (by decide) (by decide) fun wy H1 w0 w1 st1 => ?_
    walk_at "go"
    refine ite2 (fun e => ?_) (fun e => ?_)
    · walk_at "go"
      exact q .non none H1 st1 trivial trivial fun _ k e => nomatch e
    walk_at "go"
    by_cases hm : 0 < m
    · rw [iteT_of hm]
      walk_at "go"
      refine c_draw st1.q hm (by omega) fun d H2 d0 d1 st2 => ?_
      walk_at "go"
      exact q (.int (1 + d)) (some (1 + d)) H2 (st1.trans st2) ⟨rfl, by omega⟩ ⟨by omega, lt500 (by omega)⟩ fun _ k e => by cases e; omega
    · rw [iteF_of hm]
      walk_at "go"
      refine c_draw st1.q (by decide) (by decide) fun d H2 d0 d1 st2 => ?_
      walk_at "go"
      rw [p30]
      refine c_draw st2.q (by decide) (by decide) fun d2 H3 d20 d21 st3 => ?_
      walk_at "go"
      refine c_newL (by simp) fun L H4 nL s4 e4 => ?_
      walk_at "go"
      have st4 : Stp p H H4 := ((st1.trans st2).trans st3).trans (.of st3.q s4)
      obtain ⟨j, hj⟩ : ∃ j, wy % 3 = j := ⟨_, rfl⟩
      rw [hj]
      rcases (show j = 0 ∨ j = 1 ∨ j = 2 by omega) with rfl | rfl | rfl
      · refine c_ixL (.inl (.inl e4)) 0 rfl rfl ?_
        exact q _ (some (1 + d)) H4 st4 ⟨rfl, by omega⟩ ⟨by omega, lt500 (by omega)⟩ fun h => absurd h hm
      · refine c_ixL (.inl (.inl e4)) 1 rfl rfl ?_
        exact q _ (some 1000000000000000000000000000000) H4 st4 ⟨rfl, by omega⟩ ⟨by omega, lt500 (by omega)⟩ fun h => absurd h hm
      · refine c_ixL (.inl (.inl e4)) 2 rfl rfl ?_
        exact q _ (some (1 + d2)) H4 st4 ⟨rfl, by omega⟩ ⟨by omega, lt500 (by omega)⟩ fun h => absurd h hm
theorem All2.stp2 {p : Addr} {H H' : Hp} {vs : List V} {ms : List Mv} (pool : Pool H p) (s : Stp p H H') (h : All2 (MvAt K H) vs ms) : All2 (MvAt K H') vs ms := by
  obtain ⟨a, b, c, e, _⟩ := pool
  exact h.imp fun _ _ z => (MvAt.hid e z).mono (s.s.trans (hid_same p H'))
theorem newS2 {p : Addr} {H H' : Hp} (st : Stp p H H') : ∀ x, H' x = none → H x = none := fun x nx => by
  cases hx : H x with
  | none => rfl
  | some o =>
    by_cases e : x = p
    · obtain ⟨a, b, c, e2, _⟩ := st.q
      rw [e, e2] at nx
      cases nx
    · rw [st.at hx (Ne.symm e)] at nx
      cases nx
theorem i_zero : decide (V.int 0 = V.int 0) = true := decide_eq_true rfl
def spMoves (K : PySem.W.Frag) : Sp := fun vs H Q _ => ∃ (p : Addr) (n m : Int), vs = [.ref p, .int n, .int m] ∧ Pool H p ∧ 0 ≤ n ∧ n ≤ 50 ∧ 0 ≤ m ∧ m ≤ 1000 ∧
  ∀ (D : Addr) (us : List V) (ms : List Mv) H', H D = none → Stp p H H' → H' D = some (.lst us) → All2 (MvAt K H') us ms → (∀ x ∈ ms, MvOk x) → (ms.length : Int) ≤ n → (∀ x ∈ ms, AmLim m x.2) → Q (.ref D) H'
theorem ok_moves (T : TX K mg) : FnOk P w K mg base CX0 3 T.f_law_moves T.fd_law_moves pMoves (spMoves K) := by
  have G_law_draw := ok_draw (P := P) (w := w) (K := K) (base := base) T.d_law_draw T.divmod
  have G_law_amount := ok_amnt (P := P) (w := w) (base := base) T
  refine T.d_law_moves.F.ok scMoves (fun vs H Q E h => ?_) (fun cdv A outer s H vs Q E hr h => ?_)
  · obtain ⟨p, n, m, rfl, _⟩ := h
    rfl
  · obtain ⟨p, n, m, rfl, pool, n0, n1, m0, m1, q⟩ := h
    refine ⟨_, pss_cons (ps_par3 (i := 3) (j := 4) (l := 5) (by rfl) scMoves.nd rfl rfl rfl (by decide) (by decide) (by decide) rfl rfl rfl (pa_cons (pe_lst (pa_nil)) (pa_cons (pcall T.d_law_draw G_law_draw (hr.mono (by decide)) (by rfl) pass0 (pa_cons (pv 0) (pa_cons (pe_int) pa_nil))) (pa_cons (pv 2) pa_nil))) (by rfl))
      (pss_cons (ps_for PassesOwn.never rfl (pi_range1 (by rfl) T.range (pa_cons (pcall T.d_law_draw G_law_draw (hr.mono (by decide)) (by rfl) pass0 (pa_cons (pv 0) (pa_cons (pe_op op_add (pv 1) (pe_int)) pa_nil))) pa_nil)) (pg_name (i := 6) scMoves.nd rfl (.inl rfl))
        (pss_cons (ps_set (i := 7) scMoves.nd rfl (.inl rfl) (pe_ix (ixL (K := K)) (pe_lst (pa_cons (pe_str) (pa_cons (pe_str) pa_nil))) (pe_ifExp (pt_cmpR op_lt (pv 4) (pe_int) (nomark _)) (pe_op op_mod (pv 6) (pe_int)) (pcall T.d_law_draw G_law_draw (hr.mono (by decide)) (by rfl) pass0 (pa_cons (pv 0) (pa_cons (pe_int) pa_nil)))) (fun _ _ => rfl)))
      (pss_cons (ps_set (i := 8) scMoves.nd rfl (.inl rfl) (pcall T.d_law_amount G_law_amount (hr.mono (by decide)) (by rfl) pass0 (pa_cons (pv 0) (pa_cons (pv 2) pa_nil))))
      (pss_cons (ps_if (PW.pt (pw_and (pt_cmpR op_eq (pv 4) (pe_int) (nomark _)) (pw_and (pt_cmpR op_gt (pv 2) (pe_int) (nomark _)) (pw_and1 (pt_cmpR op_gt (pv 5) (pe_int) (nomark _)))))) (pss_cons (ps_set (i := 8) scMoves.nd rfl (.inl rfl) (pv 5))
      (pss_one (ps_set (i := 5) scMoves.nd rfl (.inl rfl) (pe_op op_sub (pe_op op_sub (pv 5) (pe_int)) (pcall T.d_law_draw G_law_draw (hr.mono (by decide)) (by rfl) pass0 (pa_cons (pv 0) (pa_cons (pe_int) pa_nil))))))) (pss_nil))
      (pss_one (ps_expr (pe_bm PySem.F.plainAttrs_list PySem.F.slot_list_append PySem.F.type_list_append mt_append (pv 3) (pa_cons (pe_tup (pa_cons (pv 7) (pa_cons (pv 8) pa_nil))) pa_nil))))))))
      (pss_one (ps_ret (pv 3)))), ?_⟩
    walk_at "go"
    refine c_newL (by simp) fun F H1 nF s1 e1 => ?_
    have st1 : Stp p H H1 := .of pool s1
    have pF := pool.ne nF
    walk_at "go"
    refine c_draw st1.q (by decide) (by decide) fun md H2 md0 md1 st2 => ?_
    walk_at "go"
    refine c_draw st2.q (by omega) (by omega) fun cn H3 cn0 cn1 st3 => ?_
    have st13 := st2.trans st3
    have e3 := st13.at e1 pF
    refine ⟨cn, rfl, by omega, by omega, ?_⟩
    refine for_range (lo := 0) (n := cn.toNat) (fun k σ H' => ∃ (us : List V) (ms : List Mv) (far : Int) (y6 y7 y8 : Option V), σ = [some (.ref p), some (.int n), some (.int m), some (.ref F), some (.int md), some (.int far), y6, y7, y8] ∧ Stp p H H' ∧ H' F = some (.lst us) ∧ All2 (MvAt K H') us ms ∧ (∀ z ∈ ms, MvOk z ∧ AmLim m z.2) ∧ ms.length = k ∧ far ≤ m)
      ⟨[], [], m, none, none, none, rfl, st1.trans st13, e3, All2.nil, (fun z hz => nomatch hz), rfl, Int.le_refl m⟩ (fun k σ H' hk hW => ?_) (fun σ H' hW => ?_)
    rotate_left
    · obtain ⟨us, ms, far, y6, y7, y8, rfl, st, eF, hA, hms, hl, hfar⟩ := hW
      walk_at "go"
      exact q F us ms H' nF st eF hA (fun x hx => (hms x hx).1) (by omega) fun x hx => (hms x hx).2
    obtain ⟨us, ms, far, y6, y7, y8, rfl, st, eF, hA, hms, hl, hfar⟩ := hW
    walk_at "go"
    refine c_newL (by simp) fun W K1 nW w1 eW => ?_
    have u1 : Stp p H' K1 := .of st.q w1
    have pW := st.q.ne nW
    walk_at "go"
    by_cases hmd : md < 2
    · rw [iteT_of hmd]
      walk_at "go"
      have uw := u1
      obtain ⟨j, ej, hj⟩ : ∃ j : Int, (0 + (k : Int)) % 2 = j ∧ (j = 0 ∨ j = 1) := ⟨_, rfl, by omega⟩
      rw [ej]
      rcases hj with rfl | rfl
      · refine c_ixL (.inl (.inl eW)) 0 rfl rfl ?_
        (
          walk_at "go"
          refine ⟨p, m, rfl, uw.q, m0, m1, fun x am K5 u5 hx hok hlm => ?_⟩
          walk_at "go"
          by_cases h1 : md = 0
          · first
            | (exfalso; omega)
            | (
              subst h1
              rw [i_zero]
              walk_at "go"
              by_cases h2 : 0 < m
              · rw [iteT_of h2]
                walk_at "go"
                by_cases h3 : 0 < far
                · rw [iteT_of h3]
                  walk_at "go"
                  refine c_draw u5.q (by decide) (by decide) fun d K6 d0 d1 u6 => ?_
                  walk_at "go"
                  have ux := (uw.trans u5).trans u6
                  have hx2 : AmOf (.int far) (some far) := ⟨rfl, by omega⟩
                  have hok2 : AmOk (some far) ∧ AmLim m (some far) := ⟨⟨by omega, lt500 (by omega)⟩, fun _ k e => by cases e; omega⟩
                  (
                    refine ⟨.inl ⟨rfl, us, .inl (.inl (ux.at eF pF))⟩, ?_⟩
                    walk_at "go"
                    refine c_newT (by simp) fun tt K8 nt s8 e8 => ?_
                    walk_at "go"
                    have u8 := ux.trans (.of ux.q s8)
                    refine c_app2 (u8.at eF pF) (by have := hA.1; omega) ?_
                    have eF8 := u8.at eF pF
                    refine ⟨us ++ [.ref tt], ms ++ [(true, (some far))], (far - 1 - d), _, _, _, rfl, (st.trans u8).mut nF pF, upd_same, ?_, fun z hz => ?_, by rw [List.length_append, hl]; rfl, by omega⟩
                    · exact ((hA.stp2 st.q u8).app (All2.one (show MvAt K K8 (.ref tt) (true, (some far)) from ⟨tt, _, rfl, .inl (.inl e8), hx2⟩))).mutA eF8
                    · rcases List.mem_append.mp hz with hz | hz
                      · exact hms z hz
                      · have : z = (true, (some far)) := by simpa using hz
                        rw [this]
                        exact hok2)
                · rw [iteF_of h3]
                  walk_at "go"
                  have ux := uw.trans u5
                  (
                    refine ⟨.inl ⟨rfl, us, .inl (.inl (ux.at eF pF))⟩, ?_⟩
                    walk_at "go"
                    refine c_newT (by simp) fun tt K8 nt s8 e8 => ?_
                    walk_at "go"
                    have u8 := ux.trans (.of ux.q s8)
                    refine c_app2 (u8.at eF pF) (by have := hA.1; omega) ?_
                    have eF8 := u8.at eF pF
                    refine ⟨us ++ [.ref tt], ms ++ [(true, am)], far, _, _, _, rfl, (st.trans u8).mut nF pF, upd_same, ?_, fun z hz => ?_, by rw [List.length_append, hl]; rfl, by omega⟩
                    · exact ((hA.stp2 st.q u8).app (All2.one (show MvAt K K8 (.ref tt) (true, am) from ⟨tt, _, rfl, .inl (.inl e8), hx⟩))).mutA eF8
                    · rcases List.mem_append.mp hz with hz | hz
                      · exact hms z hz
                      · have : z = (true, am) := by simpa using hz
                        rw [this]
                        exact ⟨hok, hlm⟩)
              · rw [iteF_of h2]
                walk_at "go"
                have ux := uw.trans u5
                (
                  refine ⟨.inl ⟨rfl, us, .inl (.inl (ux.at eF pF))⟩, ?_⟩
                  walk_at "go"
                  refine c_newT (by simp) fun tt K8 nt s8 e8 => ?_
                  walk_at "go"
                  have u8 := ux.trans (.of ux.q s8)
                  refine c_app2 (u8.at eF pF) (by have := hA.1; omega) ?_
                  have eF8 := u8.at eF pF
                  refine ⟨us ++ [.ref tt], ms ++ [(true, am)], far, _, _, _, rfl, (st.trans u8).mut nF pF, upd_same, ?_, fun z hz => ?_, by rw [List.length_append, hl]; rfl, by omega⟩
                  · exact ((hA.stp2 st.q u8).app (All2.one (show MvAt K K8 (.ref tt) (true, am) from ⟨tt, _, rfl, .inl (.inl e8), hx⟩))).mutA eF8
                  · rcases List.mem_append.mp hz with hz | hz
                    · exact hms z hz
                    · have : z = (true, am) := by simpa using hz
                      rw [this]
                      exact ⟨hok, hlm⟩))
          · rw [decide_eq_false (fun z => h1 (V.int.inj z) : ¬ V.int md = V.int 0)]
            walk_at "go"
            have ux := uw.trans u5
            (
              refine ⟨.inl ⟨rfl, us, .inl (.inl (ux.at eF pF))⟩, ?_⟩
              walk_at "go"
              refine c_newT (by simp) fun tt K8 nt s8 e8 => ?_
              walk_at "go"
              have u8 := ux.trans (.of ux.q s8)
              refine c_app2 (u8.at eF pF) (by have := hA.1; omega) ?_
              have eF8 := u8.at eF pF
              refine ⟨us ++ [.ref tt], ms ++ [(true, am)], far, _, _, _, rfl, (st.trans u8).mut nF pF, upd_same, ?_, fun z hz => ?_, by rw [List.length_append, hl]; rfl, by omega⟩
              · exact ((hA.stp2 st.q u8).app (All2.one (show MvAt K K8 (.ref tt) (true, am) from ⟨tt, _, rfl, .inl (.inl e8), hx⟩))).mutA eF8
              · rcases List.mem_append.mp hz with hz | hz
                · exact hms z hz
                · have : z = (true, am) := by simpa using hz
                  rw [this]
                  exact ⟨hok, hlm⟩))
      · refine c_ixL (.inl (.inl eW)) 1 rfl rfl ?_
        (
          walk_at "go"
          refine ⟨p, m, rfl, uw.q, m0, m1, fun x am K5 u5 hx hok hlm => ?_⟩
          walk_at "go"
          by_cases h1 : md = 0
          · first
            | (exfalso; omega)
            | (
              subst h1
              rw [i_zero]
              walk_at "go"
              by_cases h2 : 0 < m
              · rw [iteT_of h2]
                walk_at "go"
                by_cases h3 : 0 < far
                · rw [iteT_of h3]
                  walk_at "go"
                  refine c_draw u5.q (by decide) (by decide) fun d K6 d0 d1 u6 => ?_
                  walk_at "go"
                  have ux := (uw.trans u5).trans u6
                  have hx2 : AmOf (.int far) (some far) := ⟨rfl, by omega⟩
                  have hok2 : AmOk (some far) ∧ AmLim m (some far) := ⟨⟨by omega, lt500 (by omega)⟩, fun _ k e => by cases e; omega⟩
                  (
                    refine ⟨.inl ⟨rfl, us, .inl (.inl (ux.at eF pF))⟩, ?_⟩
                    walk_at "go"
                    refine c_newT (by simp) fun tt K8 nt s8 e8 => ?_
                    walk_at "go"
                    have u8 := ux.trans (.of ux.q s8)
                    refine c_app2 (u8.at eF pF) (by have := hA.1; omega) ?_
                    have eF8 := u8.at eF pF
                    refine ⟨us ++ [.ref tt], ms ++ [(false, (some far))], (far - 1 - d), _, _, _, rfl, (st.trans u8).mut nF pF, upd_same, ?_, fun z hz => ?_, by rw [List.length_append, hl]; rfl, by omega⟩
                    · exact ((hA.stp2 st.q u8).app (All2.one (show MvAt K K8 (.ref tt) (false, (some far)) from ⟨tt, _, rfl, .inl (.inl e8), hx2⟩))).mutA eF8
                    · rcases List.mem_append.mp hz with hz | hz
                      · exact hms z hz
                      · have : z = (false, (some far)) := by simpa using hz
                        rw [this]
                        exact hok2)
                · rw [iteF_of h3]
                  walk_at "go"
                  have ux := uw.trans u5
                  (
                    refine ⟨.inl ⟨rfl, us, .inl (.inl (ux.at eF pF))⟩, ?_⟩
                    walk_at "go"
                    refine c_newT (by simp) fun tt K8 nt s8 e8 => ?_
                    walk_at "go"
                    have u8 := ux.trans (.of ux.q s8)
                    refine c_app2 (u8.at eF pF) (by have := hA.1; omega) ?_
                    have eF8 := u8.at eF pF
                    refine ⟨us ++ [.ref tt], ms ++ [(false, am)], far, _, _, _, rfl, (st.trans u8).mut nF pF, upd_same, ?_, fun z hz => ?_, by rw [List.length_append, hl]; rfl, by omega⟩
                    · exact ((hA.stp2 st.q u8).app (All2.one (show MvAt K K8 (.ref tt) (false, am) from ⟨tt, _, rfl, .inl (.inl e8), hx⟩))).mutA eF8
                    · rcases List.mem_append.mp hz with hz | hz
                      · exact hms z hz
                      · have : z = (false, am) := by simpa using hz
                        rw [this]
                        exact ⟨hok, hlm⟩)
              · rw [iteF_of h2]
                walk_at "go"
                have ux := uw.trans u5
                (
                  refine ⟨.inl ⟨rfl, us, .inl (.inl (ux.at eF pF))⟩, ?_⟩
                  walk_at "go"
                  refine c_newT (by simp) fun tt K8 nt s8 e8 => ?_
                  walk_at "go"
                  have u8 := ux.trans (.of ux.q s8)
                  refine c_app2 (u8.at eF pF) (by have := hA.1; omega) ?_
                  have eF8 := u8.at eF pF
                  refine ⟨us ++ [.ref tt], ms ++ [(false, am)], far, _, _, _, rfl, (st.trans u8).mut nF pF, upd_same, ?_, fun z hz => ?_, by rw [List.length_append, hl]; rfl, by omega⟩
                  · exact ((hA.stp2 st.q u8).app (All2.one (show MvAt K K8 (.ref tt) (false, am) from ⟨tt, _, rfl, .inl (.inl e8), hx⟩))).mutA eF8
                  · rcases List.mem_append.mp hz with hz | hz
                    · exact hms z hz
                    · have : z = (false, am) := by simpa using hz
                      rw [this]
                      exact ⟨hok, hlm⟩))
          · rw [decide_eq_false (fun z => h1 (V.int.inj z) : ¬ V.int md = V.int 0)]
            walk_at "go"
            have ux := uw.trans u5
            (
              refine ⟨.inl ⟨rfl, us, .inl (.inl (ux.at eF pF))⟩, ?_⟩
              walk_at "go"
              refine c_newT (by simp) fun tt K8 nt s8 e8 => ?_
              walk_at "go"
              have u8 := ux.trans (.of ux.q s8)
              refine c_app2 (u8.at eF pF) (by have := hA.1; omega) ?_
              have eF8 := u8.at eF pF
              refine ⟨us ++ [.ref tt], ms ++ [(false, am)], far, _, _, _, rfl, (st.trans u8).mut nF pF, upd_same, ?_, fun z hz => ?_, by rw [List.length_append, hl]; rfl, by omega⟩
              · exact ((hA.stp2 st.q u8).app (All2.one (show MvAt K K8 (.ref tt) (false, am) from ⟨tt, _, rfl, .inl (.inl e8), hx⟩))).mutA eF8
              · rcases List.mem_append.mp hz with hz | hz
                · exact hms z hz
                · have : z = (false, am) := by simpa using hz
                  rw [this]
                  exact ⟨hok, hlm⟩))
    · rw [iteF_of hmd]
      walk_at "go"
      refine c_draw u1.q (by decide) (by decide) fun dw K2 dw0 dw1 u2 => ?_
      have uw := u1.trans u2
      have eW2 : K2 W = _ := u2.at eW pW
      rcases (show dw = 0 ∨ dw = 1 by omega) with rfl | rfl
      · refine c_ixL (.inl (.inl eW2)) 0 rfl rfl ?_
        (
          walk_at "go"
          refine ⟨p, m, rfl, uw.q, m0, m1, fun x am K5 u5 hx hok hlm => ?_⟩
          walk_at "go"
          by_cases h1 : md = 0
          · first
            | (exfalso; omega)
            | (
              subst h1
              rw [i_zero]
              walk_at "go"
              by_cases h2 : 0 < m
              · rw [iteT_of h2]
                walk_at "go"
                by_cases h3 : 0 < far
                · rw [iteT_of h3]
                  walk_at "go"
                  refine c_draw u5.q (by decide) (by decide) fun d K6 d0 d1 u6 => ?_
                  walk_at "go"
                  have ux := (uw.trans u5).trans u6
                  have hx2 : AmOf (.int far) (some far) := ⟨rfl, by omega⟩
                  have hok2 : AmOk (some far) ∧ AmLim m (some far) := ⟨⟨by omega, lt500 (by omega)⟩, fun _ k e => by cases e; omega⟩
                  (
                    refine ⟨.inl ⟨rfl, us, .inl (.inl (ux.at eF pF))⟩, ?_⟩
                    walk_at "go"
                    refine c_newT (by simp) fun tt K8 nt s8 e8 => ?_
                    walk_at "go"
                    have u8 := ux.trans (.of ux.q s8)
                    refine c_app2 (u8.at eF pF) (by have := hA.1; omega) ?_
                    have eF8 := u8.at eF pF
                    refine ⟨us ++ [.ref tt], ms ++ [(true, (some far))], (far - 1 - d), _, _, _, rfl, (st.trans u8).mut nF pF, upd_same, ?_, fun z hz => ?_, by rw [List.length_append, hl]; rfl, by omega⟩
                    · exact ((hA.stp2 st.q u8).app (All2.one (show MvAt K K8 (.ref tt) (true, (some far)) from ⟨tt, _, rfl, .inl (.inl e8), hx2⟩))).mutA eF8
                    · rcases List.mem_append.mp hz with hz | hz
                      · exact hms z hz
                      · have : z = (true, (some far)) := by simpa using hz
                        rw [this]
                        exact hok2)
                · rw [iteF_of h3]
                  walk_at "go"
                  have ux := uw.trans u5
                  (
                    refine ⟨.inl ⟨rfl, us, .inl (.inl (ux.at eF pF))⟩, ?_⟩
                    walk_at "go"
                    refine c_newT (by simp) fun tt K8 nt s8 e8 => ?_
                    walk_at "go"
                    have u8 := ux.trans (.of ux.q s8)
                    refine c_app2 (u8.at eF pF) (by have := hA.1; omega) ?_
                    have eF8 := u8.at eF pF
                    refine ⟨us ++ [.ref tt], ms ++ [(true, am)], far, _, _, _, rfl, (st.trans u8).mut nF pF, upd_same, ?_, fun z hz => ?_, by rw [List.length_append, hl]; rfl, by omega⟩
                    · exact ((hA.stp2 st.q u8).app (All2.one (show MvAt K K8 (.ref tt) (true, am) from ⟨tt, _, rfl, .inl (.inl e8), hx⟩))).mutA eF8
                    · rcases List.mem_append.mp hz with hz | hz
                      · exact hms z hz
                      · have : z = (true, am) := by simpa using hz
                        rw [this]
                        exact ⟨hok, hlm⟩)
              · rw [iteF_of h2]
                walk_at "go"
                have ux := uw.trans u5
                (
                  refine ⟨.inl ⟨rfl, us, .inl (.inl (ux.at eF pF))⟩, ?_⟩
                  walk_at "go"
                  refine c_newT (by simp) fun tt K8 nt s8 e8 => ?_
                  walk_at "go"
                  have u8 := ux.trans (.of ux.q s8)
                  refine c_app2 (u8.at eF pF) (by have := hA.1; omega) ?_
                  have eF8 := u8.at eF pF
                  refine ⟨us ++ [.ref tt], ms ++ [(true, am)], far, _, _, _, rfl, (st.trans u8).mut nF pF, upd_same, ?_, fun z hz => ?_, by rw [List.length_append, hl]; rfl, by omega⟩
                  · exact ((hA.stp2 st.q u8).app (All2.one (show MvAt K K8 (.ref tt) (true, am) from ⟨tt, _, rfl, .inl (.inl e8), hx⟩))).mutA eF8
                  · rcases List.mem_append.mp hz with hz | hz
                    · exact hms z hz
                    · have : z = (true, am) := by simpa using hz
                      rw [this]
                      exact ⟨hok, hlm⟩))
          · rw [decide_eq_false (fun z => h1 (V.int.inj z) : ¬ V.int md = V.int 0)]
            walk_at "go"
            have ux := uw.trans u5
            (
              refine ⟨.inl ⟨rfl, us, .inl (.inl (ux.at eF pF))⟩, ?_⟩
              walk_at "go"
              refine c_newT (by simp) fun tt K8 nt s8 e8 => ?_
              walk_at "go"
              have u8 := ux.trans (.of ux.q s8)
              refine c_app2 (u8.at eF pF) (by have := hA.1; omega) ?_
              have eF8 := u8.at eF pF
              refine ⟨us ++ [.ref tt], ms ++ [(true, am)], far, _, _, _, rfl, (st.trans u8).mut nF pF, upd_same, ?_, fun z hz => ?_, by rw [List.length_append, hl]; rfl, by omega⟩
              · exact ((hA.stp2 st.q u8).app (All2.one (show MvAt K K8 (.ref tt) (true, am) from ⟨tt, _, rfl, .inl (.inl e8), hx⟩))).mutA eF8
              · rcases List.mem_append.mp hz with hz | hz
                · exact hms z hz
                · have : z = (true, am) := by simpa using hz
                  rw [this]
                  exact ⟨hok, hlm⟩))
      · refine c_ixL (.inl (.inl eW2)) 1 rfl rfl ?_
        (
          walk_at "go"
          refine ⟨p, m, rfl, uw.q, m0, m1, fun x am K5 u5 hx hok hlm => ?_⟩
          walk_at "go"
          by_cases h1 : md = 0
          · first
            | (exfalso; omega)
            | (
              subst h1
              rw [i_zero]
              walk_at "go"
              by_cases h2 : 0 < m
              · rw [iteT_of h2]
                walk_at "go"
                by_cases h3 : 0 < far
                · rw [iteT_of h3]
                  walk_at "go"
                  refine c_draw u5.q (by decide) (by decide) fun d K6 d0 d1 u6 => ?_
                  walk_at "go"
                  have ux := (uw.trans u5).trans u6
                  have hx2 : AmOf (.int far) (some far) := ⟨rfl, by omega⟩
                  have hok2 : AmOk (some far) ∧ AmLim m (some far) := ⟨⟨by omega, lt500 (by omega)⟩, fun _ k e => by cases e; omega⟩
                  (
                    refine ⟨.inl ⟨rfl, us, .inl (.inl (ux.at eF pF))⟩, ?_⟩
                    walk_at "go"
                    refine c_newT (by simp) fun tt K8 nt s8 e8 => ?_
                    walk_at "go"
                    have u8 := ux.trans (.of ux.q s8)
                    refine c_app2 (u8.at eF pF) (by have := hA.1; omega) ?_
                    have eF8 := u8.at eF pF
                    refine ⟨us ++ [.ref tt], ms ++ [(false, (some far))], (far - 1 - d), _, _, _, rfl, (st.trans u8).mut nF pF, upd_same, ?_, fun z hz => ?_, by rw [List.length_append, hl]; rfl, by omega⟩
                    · exact ((hA.stp2 st.q u8).app (All2.one (show MvAt K K8 (.ref tt) (false, (some far)) from ⟨tt, _, rfl, .inl (.inl e8), hx2⟩))).mutA eF8
                    · rcases List.mem_append.mp hz with hz | hz
                      · exact hms z hz
                      · have : z = (false, (some far)) := by simpa using hz
                        rw [this]
                        exact hok2)
                · rw [iteF_of h3]
                  walk_at "go"
                  have ux := uw.trans u5
                  (
                    refine ⟨.inl ⟨rfl, us, .inl (.inl (ux.at eF pF))⟩, ?_⟩
                    walk_at "go"
                    refine c_newT (by simp) fun tt K8 nt s8 e8 => ?_
                    walk_at "go"
                    have u8 := ux.trans (.of ux.q s8)
                    refine c_app2 (u8.at eF pF) (by have := hA.1; omega) ?_
                    have eF8 := u8.at eF pF
                    refine ⟨us ++ [.ref tt], ms ++ [(false, am)], far, _, _, _, rfl, (st.trans u8).mut nF pF, upd_same, ?_, fun z hz => ?_, by rw [List.length_append, hl]; rfl, by omega⟩
                    · exact ((hA.stp2 st.q u8).app (All2.one (show MvAt K K8 (.ref tt) (false, am) from ⟨tt, _, rfl, .inl (.inl e8), hx⟩))).mutA eF8
                    · rcases List.mem_append.mp hz with hz | hz
                      · exact hms z hz
                      · have : z = (false, am) := by simpa using hz
                        rw [this]
                        exact ⟨hok, hlm⟩)
              · rw [iteF_of h2]
                walk_at "go"
                have ux := uw.trans u5
                (
                  refine ⟨.inl ⟨rfl, us, .inl (.inl (ux.at eF pF))⟩, ?_⟩
                  walk_at "go"
                  refine c_newT (by simp) fun tt K8 nt s8 e8 => ?_
                  walk_at "go"
                  have u8 := ux.trans (.of ux.q s8)
                  refine c_app2 (u8.at eF pF) (by have := hA.1; omega) ?_
                  have eF8 := u8.at eF pF
                  refine ⟨us ++ [.ref tt], ms ++ [(false, am)], far, _, _, _, rfl, (st.trans u8).mut nF pF, upd_same, ?_, fun z hz => ?_, by rw [List.length_append, hl]; rfl, by omega⟩
                  · exact ((hA.stp2 st.q u8).app (All2.one (show MvAt K K8 (.ref tt) (false, am) from ⟨tt, _, rfl, .inl (.inl e8), hx⟩))).mutA eF8
                  · rcases List.mem_append.mp hz with hz | hz
                    · exact hms z hz
                    · have : z = (false, am) := by simpa using hz
                      rw [this]
                      exact ⟨hok, hlm⟩))
          · rw [decide_eq_false (fun z => h1 (V.int.inj z) : ¬ V.int md = V.int 0)]
            walk_at "go"
            have ux := uw.trans u5
            (
              refine ⟨.inl ⟨rfl, us, .inl (.inl (ux.at eF pF))⟩, ?_⟩
              walk_at "go"
              refine c_newT (by simp) fun tt K8 nt s8 e8 => ?_
              walk_at "go"
              have u8 := ux.trans (.of ux.q s8)
              refine c_app2 (u8.at eF pF) (by have := hA.1; omega) ?_
              have eF8 := u8.at eF pF
              refine ⟨us ++ [.ref tt], ms ++ [(false, am)], far, _, _, _, rfl, (st.trans u8).mut nF pF, upd_same, ?_, fun z hz => ?_, by rw [List.length_append, hl]; rfl, by omega⟩
              · exact ((hA.stp2 st.q u8).app (All2.one (show MvAt K K8 (.ref tt) (false, am) from ⟨tt, _, rfl, .inl (.inl e8), hx⟩))).mutA eF8
              · rcases List.mem_append.mp hz with hz | hz
                · exact hms z hz
                · have : z = (false, am) := by simpa using hz
                  rw [this]
                  exact ⟨hok, hlm⟩))
end
end Und
set_option exponentiation.threshold 2000
namespace Und
open PySem PySem.Spec PyProof.Rows L2
local macro_rules | `(tactic| walk_at "side") => `(tactic| first | decide | omega | exact ⟨by omega, by omega⟩ | (show (0 : Int) < _; omega) | (exact Or.inl ⟨by omega, by omega⟩) | (exact Or.inr ⟨by omega, by omega⟩) | (exact sz (by simp)) | (exact szl (by simp)))
local macro_rules | `(tactic| walk_at "u") => `(tactic| first
  | with_reducible refine c_seq ?_ | with_reducible refine c_next ?_ | with_reducible refine c_yes ?_ | with_reducible refine c_asg ?_ | with_reducible refine c_asg2 ?_ | with_reducible refine c_par ?_ | with_reducible refine c_two ?_ | with_reducible refine c_g ?_ | with_reducible refine c_gsub ?_ | with_reducible refine c_gcons ?_ | with_reducible refine c_gnil ?_ | with_reducible refine c_ret ?_ | with_reducible refine c_drop ?_
  | ((with_reducible refine c_var (v := ?v) ?h ?_); (case h => rfl)) | with_reducible refine c_c ?_ | with_reducible refine c_op ?_ | with_reducible refine c_un ?_ | with_reducible refine c_I0 ?_
  | ((with_reducible refine c_I ?h ?_); (case h => walk_at "side"))
  | ((with_reducible refine c_eq ?h ?_); (case h => rfl)) | ((with_reducible refine c_neq ?h ?_); (case h => rfl)) | with_reducible refine c_test ?_ | with_reducible refine c_B ?_ | with_reducible refine c_bl ?_ | with_reducible refine c_int ?_ | with_reducible refine c_ifs ?_ | with_reducible refine c_ife ?_
  | with_reducible refine c_andV ?_ | with_reducible refine c_orV ?_ | with_reducible refine c_notV ?_ | with_reducible refine c_and ?_ | with_reducible refine c_or ?_ | with_reducible refine c_not ?_
  | with_reducible refine c_call ?_ | with_reducible refine c_cb ?_ | with_reducible refine c_nil ?_ | with_reducible refine c_cons ?_
  | with_reducible refine c_tup ?_ | with_reducible refine c_lst ?_ | with_reducible refine c_sl ?_ | with_reducible refine c_nop ?_ | with_reducible refine c_part ?_ | with_reducible refine c_fld ?_
  | with_reducible refine c_for ?_ | with_reducible refine c_ilist ?_ | with_reducible refine c_itup ?_ | with_reducible refine c_irng1 ?_ | with_reducible refine c_lc ?_
  | with_reducible refine c_m1 ?_ | with_reducible refine c_isS ?_ | with_reducible refine c_chain ?_ | with_reducible refine c_str ?_ | with_reducible refine c_make ?_ | with_reducible refine c_meth ?_ | with_reducible refine c_prop ?_ | with_reducible refine c_sfld ?_ | with_reducible refine c_ienumT ?_ | with_reducible refine iteT ?_ | with_reducible refine iteF ?_ | with_reducible refine iteNT ?_ | with_reducible refine iteNF ?_
  | ((with_reducible refine iteDT ?h ?_); (case h => first | rfl | omega)) | ((with_reducible refine iteDF ?h ?_); (case h => first | omega | (intro z; cases z; done))) | ((with_reducible refine iteNDT ?h ?_); (case h => first | rfl | omega)) | ((with_reducible refine iteNDF ?h ?_); (case h => first | omega | (intro z; cases z; done))))
local macro_rules | `(tactic| walk_at "go") => `(tactic| repeat (walk_at "u"))
local macro_rules | `(tactic| walk_at "u") => `(tactic| first | with_reducible refine c_par3 ?_ | with_reducible refine c_three ?_ | with_reducible refine c_orT ?_ | with_reducible refine c_bm2 ?_)
section
variable {P : Program} {w : World} {K : PySem.W.Frag} {mg : Str → Option Value} {base : Heap}
theorem CmdAt.hidD {H : Hp} {p : Addr} {l : List V} {v : V} {c : Cmd} (e : H p = some (.lst l)) (h : CmdAt K H v c) : CmdAt K (hid p H) v c := by
  cases c with
  | dd z =>
    obtain ⟨a, e1, h1, h2⟩ := h
    exact ⟨a, e1, sqT_hid e h1, h2⟩
  | mv m => exact MvAt.hid e h
  | rep n ms =>
    obtain ⟨a, b, vs, e1, h1, h2, h3, r⟩ := h
    exact ⟨a, b, vs, e1, sqT_hid e h1, sqT_hid e h2, h3.imp fun _ _ => MvAt.hid e, r⟩
theorem Cmds.stp {p : Addr} {H H' : Hp} {vs : List V} {cs : List Cmd} (pool : Pool H p) (s : Stp p H H') (h : All2 (CmdAt K H) vs cs) : All2 (CmdAt K H') vs cs := by
  obtain ⟨a, b, c, e, _⟩ := pool
  exact h.imp fun _ _ z => (CmdAt.hidD e z).mono (s.s.trans (hid_same p H'))
theorem Cmds.mut {p : Addr} {H : Hp} {l : List V} {o : HO} {vs : List V} {cs : List Cmd} (e : H p = some (.lst l)) (h : All2 (CmdAt K H) vs cs) : All2 (CmdAt K (upd H p o)) vs cs := h.imp fun _ _ z => (CmdAt.hidD e z).mono mutS
theorem All2.mut' {p : Addr} {H : Hp} {l : List V} {o : HO} {vs : List V} {cs : List Cmd} (h : All2 (CmdAt K H) vs cs) (e : H p = some (.lst l)) : All2 (CmdAt K (upd H p o)) vs cs := Cmds.mut e h
theorem Cmds.of {H : Hp} {vs : List V} {ms : List Mv} (h : All2 (MvAt K H) vs ms) : All2 (CmdAt K H) vs (ms.map .mv) := by
  refine ⟨by rw [List.length_map, h.1], fun i v c a b => ?_⟩
  rw [List.getElem?_map] at b
  cases e : ms[i]? with
  | none => rw [e] at b; cases b
  | some m =>
    rw [e] at b
    rw [← Option.some.inj b]
    exact h.2 i v m a e
theorem c_ext {a b : Addr} {xs zs : List V} {H : Hp} {Q : VK} (e : H a = some (.lst xs)) (e2 : H b = some (.lst zs)) (z : xs.length + zs.length ≤ 100000) (h : Q .non (upd H a (.lst (xs ++ zs)))) : rExtend (.ref a) [.ref b] H Q := ⟨a, b, xs, zs, rfl, rfl, e, e2, sz z, h⟩
theorem c_catL {a b : Addr} {xs zs : List V} {H : Hp} {Q : VK} (e : H a = some (.lst xs)) (e2 : H b = some (.lst zs)) (z : xs.length + zs.length ≤ 100000) (h : ∀ p H2, H p = none → Same H H2 → H2 p = some (.lst (xs ++ zs)) → Q (.ref p) H2) : rCat (.ref a) (.ref b) H Q := ⟨a, b, xs, zs, rfl, rfl, e, e2, sz z, fun p np => h p _ np (same_new np) upd_same⟩
def CsOk (cs : List Cmd) : Prop := ∀ c ∈ cs, CmdOk c ∧ CmdSz c
theorem CsOk.app {as bs : List Cmd} (h : CsOk as) (g : CsOk bs) : CsOk (as ++ bs) := fun c hc => by
  rcases List.mem_append.mp hc with hc | hc
  · exact h c hc
  · exact g c hc
theorem CsOk.mvs {ms : List Mv} (h : ∀ m ∈ ms, MvOk m) : CsOk (ms.map .mv) := fun c hc => by
  obtain ⟨m, hm, rfl⟩ := List.mem_map.mp hc
  exact ⟨h m hm, trivial⟩
theorem CsOk.one {c : Cmd} (h : CmdOk c) (g : CmdSz c) : CsOk [c] := fun d hd => by
  have : d = c := by simpa using hd
  rw [this]
  exact ⟨h, g⟩
/-- the commands found so far -/
structure Fnd (K : PySem.W.Frag) (p : Addr) (H H' : Hp) (L F : Addr) (ls us : List V) (cs : List Cmd) : Prop where
  st : Stp p H H'
  e1 : H' L = some (.lst ls)
  e2 : H' F = some (.lst us)
  hA : All2 (CmdAt K H') us cs
  ok : CsOk cs
theorem Fnd.stp {p L F : Addr} {H H' H2 : Hp} {ls us : List V} {cs : List Cmd} (f : Fnd K p H H' L F ls us cs) (pL : p ≠ L) (pF : p ≠ F) (u : Stp p H' H2) : Fnd K p H H2 L F ls us cs :=
  ⟨f.st.trans u, u.at f.e1 pL, u.at f.e2 pF, Cmds.stp f.st.q u f.hA, f.ok⟩
theorem Fnd.put {p L F : Addr} {H H' : Hp} {ls us vs : List V} {cs ds : List Cmd} (f : Fnd K p H H' L F ls us cs) (nF : H F = none) (pF : p ≠ F) (LF : L ≠ F) (hB : All2 (CmdAt K H') vs ds) (ok : CsOk ds) : Fnd K p H (upd H' F (.lst (us ++ vs))) L F ls (us ++ vs) (cs ++ ds) :=
  ⟨f.st.mut nF pF, (upd_ne LF).trans f.e1, upd_same, (f.hA.app hB).mut' f.e2, f.ok.app ok⟩
/-- few repeats -/
def SmallC : Cmd → Prop
  | .rep n _ => n ≤ 1000
  | _ => True
def SmallCs (cs : List Cmd) : Prop := ∀ c ∈ cs, SmallC c
theorem SmallCs.app {as bs : List Cmd} (h : SmallCs as) (g : SmallCs bs) : SmallCs (as ++ bs) := fun c hc => by
  rcases List.mem_append.mp hc with hc | hc
  · exact h c hc
  · exact g c hc
theorem SmallCs.mvs {ms : List Mv} : SmallCs (ms.map .mv) := fun c hc => by
  obtain ⟨m, hm, rfl⟩ := List.mem_map.mp hc
  exact trivial
theorem SmallCs.one {c : Cmd} (h : SmallC c) : SmallCs [c] := fun d hd => by
  have : d = c := by simpa using hd
  rw [this]
  exact h
/-- small amounts, few repeats -/
def Sm (m : Int) : Cmd → Prop
  | .dd _ => True
  | .mv x => AmLim m x.2
  | .rep n ms => (0 < m → n ≤ 5) ∧ ms.length ≤ 4 ∧ ∀ x ∈ ms, AmLim m x.2
def Sms (m : Int) (cs : List Cmd) : Prop := ∀ c ∈ cs, Sm m c
theorem Sms.app {m : Int} {as bs : List Cmd} (h : Sms m as) (g : Sms m bs) : Sms m (as ++ bs) := fun c hc => by
  rcases List.mem_append.mp hc with hc | hc
  · exact h c hc
  · exact g c hc
theorem Sms.mvs {m : Int} {ms : List Mv} (h : ∀ x ∈ ms, AmLim m x.2) : Sms m (ms.map .mv) := fun c hc => by
  obtain ⟨x, hm, rfl⟩ := List.mem_map.mp hc
  exact h x hm
theorem Sms.one {m : Int} {c : Cmd} (h : Sm m c) : Sms m [c] := fun d hd => by
  have : d = c := by simpa using hd
  rw [this]
  exact h
theorem Sms.small {m : Int} {cs : List Cmd} (h : Sms m cs) (h0 : 0 < m) : SmallCs cs := fun c hc => by
  have := h c hc
  cases c with
  | dd z => trivial
  | mv x => trivial
  | rep n ms => exact Int.le_trans (this.1 h0) (by decide)
def spSteps (K : PySem.W.Frag) : Sp := fun vs H Q _ => ∃ (p : Addr) (n m : Int), vs = [.ref p, .int n, .int m] ∧ Pool H p ∧ 0 ≤ n ∧ n ≤ 12 ∧ 0 ≤ m ∧ m ≤ 1000 ∧
  ∀ (t : Addr) (us : List V) (cs : List Cmd) H', Stp p H H' → SqT K H' t us → All2 (CmdAt K H') us cs → CsOk cs → cs.length ≤ 6 * n.toNat + 4 → Q (.ref t) H'
def spStepsS (K : PySem.W.Frag) : Sp := fun vs H Q _ => ∃ (p : Addr) (n m : Int), vs = [.ref p, .int n, .int m] ∧ Pool H p ∧ 0 ≤ n ∧ n ≤ 12 ∧ 0 ≤ m ∧ m ≤ 1000 ∧
  ∀ (t : Addr) (us : List V) (cs : List Cmd) H', Stp p H H' → SqT K H' t us → All2 (CmdAt K H') us cs → CsOk cs → cs.length ≤ 6 * n.toNat + 4 → Sms m cs → Q (.ref t) H'
theorem ok_steps3 (T : TX K mg) : FnOk P w K mg base CX0 4 T.f_law_steps T.fd_law_steps pSteps (spStepsS K) := by
  have G_law_draw := ok_draw (P := P) (w := w) (K := K) (base := base) T.d_law_draw T.divmod
  have G_law_calls := ok_calls (P := P) (w := w) (base := base) T
  have G_law_moves := ok_moves (P := P) (w := w) (base := base) T
  refine T.d_law_steps.F.ok scSteps (fun vs H Q E h => ?_) (fun cdv A outer s H vs Q E hr h => ?_)
  · obtain ⟨p, n, m, rfl, _⟩ := h
    rfl
  · obtain ⟨p, n, m, rfl, pool, n0, n1, m0, m1, q⟩ := h
    refine ⟨_, pss_cons (ps_par (i := 3) (j := 4) (by rfl) scSteps.nd rfl rfl (by decide) rfl rfl (pa_cons (pcall T.d_law_calls G_law_calls (hr.mono (by decide)) (by rfl) pass0 (pa_cons (pv 0) (pa_cons (pv 1) pa_nil))) (pa_cons (pe_lst (pa_nil)) pa_nil)) (by rfl))
      (pss_cons (ps_for PassesOwn.never rfl (piList (K := K) (pe_slice (slL (K := K)) (pv 3) po_none (po_some (pcall T.d_law_draw G_law_draw (hr.mono (by decide)) (by rfl) pass0 (pa_cons (pv 0) (pa_cons (pe_op op_add (pv 1) (pe_int)) pa_nil)))))) (pg_name (i := 5) scSteps.nd rfl (.inl rfl))
        (pss_cons (ps_expr (pe_bm PySem.F.plainAttrs_list PySem.F.slot_list_extend PySem.F.type_list_extend mt_extend (pv 4) (pa_cons (pcall T.d_law_moves G_law_moves (hr.mono (by decide)) (by rfl) pass0 (pa_cons (pv 0) (pa_cons (pe_int) (pa_cons (pv 2) pa_nil)))) pa_nil)))
      (pss_cons (ps_if (pt_cmpR op_eq (pcall T.d_law_draw G_law_draw (hr.mono (by decide)) (by rfl) pass0 (pa_cons (pv 0) (pa_cons (pe_int) pa_nil))) (pe_int) (nomark _)) (pss_cons (ps_set (i := 6) scSteps.nd rfl (.inl rfl) (pe_op (opCatT (K := K)) (pe_callTy (callTupOf (K := K)) (by rfl) T.tuple (by decide +kernel) (pa_cons (pcall T.d_law_moves G_law_moves (hr.mono (by decide)) (by rfl) pass0 (pa_cons (pv 0) (pa_cons (pe_int) (pa_cons (pv 2) pa_nil)))) pa_nil)) (pe_tup (pa_cons (pe_tup (pa_cons (pe_str) (pa_cons (pe_op op_add (pe_int) (pcall T.d_law_draw G_law_draw (hr.mono (by decide)) (by rfl) pass0 (pa_cons (pv 0) (pa_cons (pe_int) pa_nil)))) pa_nil))) pa_nil))))
      (pss_one (ps_expr (pe_bm PySem.F.plainAttrs_list PySem.F.slot_list_append PySem.F.type_list_append mt_append (pv 4) (pa_cons (pe_tup (pa_cons (pe_str) (pa_cons (pe_ix (ixL (K := K)) (pe_lst (pa_cons (pe_op op_add (pe_int) (pcall T.d_law_draw G_law_draw (hr.mono (by decide)) (by rfl) pass0 (pa_cons (pv 0) (pa_cons (pe_int) pa_nil)))) (pa_cons (pe_op op_pow (pe_int) (pe_int)) pa_nil))) (pe_callTy call_int1 (by rfl) T.int (by decide +kernel) (pa_cons (pe_cmpR op_eq (pv 2) (pe_int) (nomark _)) pa_nil)) (fun _ _ => rfl)) (pa_cons (pv 6) pa_nil)))) pa_nil))))) (pss_nil))
      (pss_one (ps_expr (pe_bm PySem.F.plainAttrs_list PySem.F.slot_list_append PySem.F.type_list_append mt_append (pv 4) (pa_cons (pe_tup (pa_cons (pe_str) (pa_cons (pv 5) pa_nil))) pa_nil)))))))
      (pss_one (ps_ret (pe_callTy (callTupOf (K := K)) (by rfl) T.tuple (by decide +kernel) (pa_cons (pe_op op_cat (pv 4) (pcall T.d_law_moves G_law_moves (hr.mono (by decide)) (by rfl) pass0 (pa_cons (pv 0) (pa_cons (pe_int) (pa_cons (pv 2) pa_nil))))) pa_nil))))), ?_⟩
    walk_at "go"
    refine ⟨p, n, rfl, pool, n0, by omega, fun C ns H1 nC st1 eC lC okC => ?_⟩
    have pC := pool.ne nC
    walk_at "go"
    refine c_newL (by simp) fun F H2 nF s2 eF => ?_
    have st2 : Stp p H H2 := st1.trans (.of st1.q s2)
    have nF0 := newS2 st1 F nF
    have pF := pool.ne nF0
    walk_at "go"
    refine c_draw st2.q (by omega) (by omega) fun d H3 d0 d1 st3 => ?_
    have eC3 : H3 C = _ := st3.at (s2 _ _ eC) pC
    have eF3 : H3 F = _ := st3.at eF pF
    obtain ⟨dn, rfl⟩ : ∃ dn : Nat, d = (dn : Int) := ⟨d.toNat, by omega⟩
    refine ⟨_, rfl, ?_⟩
    refine c_slL (.inl (.inl eC3)) fun L H4 nL s4 eL => ?_
    rw [cut_to _ _ (by rw [List.length_map]; omega), ← List.map_take] at eL
    have hF4 : H4 F = _ := s4 _ _ eF3
    have LF : L ≠ F := fun z => by
      rw [z, eF3] at nL
      cases nL
    have st4 : Stp p H H4 := (st2.trans st3).trans (.of st3.q s4)
    have pL : p ≠ L := (st2.trans st3).q.ne nL
    refine ⟨L, rfl, ⟨_, .inl (.inl eL)⟩, ?_⟩
    refine for_list (xs := (ns.take dn).map V.str) (fun i σ H' => ∃ (us : List V) (cs : List Cmd) (y5 y6 : Option V), σ = [some (.ref p), some (.int n), some (.int m), some (.ref C), some (.ref F), y5, y6] ∧ Fnd K p H H' L F ((ns.take dn).map V.str) us cs ∧ cs.length ≤ 6 * i ∧ Sms m cs)
      ⟨[], [], none, none, rfl, ⟨st4, eL, hF4, All2.nil, (fun c hc => nomatch hc)⟩, Nat.zero_le _, fun c hc => nomatch hc⟩ (fun i σ H' _ h => ?_) (fun i x σ H' hx h => ?_) (fun σ H' h => ?_)
    · obtain ⟨us, cs, y5, y6, rfl, f, hl, hsm⟩ := h
      exact .inl (.inl f.e1)
    · obtain ⟨us, cs, y5, y6, rfl, f, hl, hsm⟩ := h
      obtain ⟨z, rfl, hz⟩ := str_at hx
      have hi : i < 13 := by
        have := (List.getElem?_eq_some_iff.mp hx).1
        rw [List.length_map, List.length_take] at this
        omega
      have hzn := okC z (List.mem_of_mem_take hz)
      walk_at "go"
      refine ⟨.inl ⟨rfl, _, .inl (.inl f.e2)⟩, ?_⟩
      walk_at "go"
      refine ⟨p, 4, m, rfl, f.st.q, by decide, by decide, m0, m1, fun D vs2 ms K1 nD u1 eD hM hmo hml hlm => ?_⟩
      have f1 := f.stp pL pF u1
      have hul := f1.hA.1
      have hvl := hM.1
      walk_at "go"
      refine c_ext f1.e2 eD (by omega) ?_
      have f2 := f1.put nF0 pF LF (Cmds.of hM) (CsOk.mvs hmo)
      have hml2 : (cs ++ ms.map Cmd.mv).length ≤ 6 * i + 4 := by rw [List.length_append, List.length_map]; omega
      walk_at "go"
      refine c_draw f2.st.q (by decide) (by decide) fun dr K2 dr0 dr1 u2 => ?_
      have f3 := f2.stp pL pF u2
      walk_at "go"
      refine ite2 (fun _ => ?_) (fun _ => ?_)
      · walk_at "go"
        refine ⟨p, 3, m, rfl, f3.st.q, by decide, by decide, m0, m1, fun D3 vs3 ms3 K3 nD3 u3 eD3 hM3 hmo3 hml3 hlm3 => ?_⟩
        have f4 := f3.stp pL pF u3
        walk_at "go"
        refine c_tupOfL (.inl (.inl eD3)) fun t3 K4 n4 w4 e4 => ?_
        have f5 := f4.stp pL pF (.of f4.st.q w4)
        have hM4 := hM3.imp fun _ _ => MvAt.mono w4
        walk_at "go"
        refine c_draw f5.st.q (by decide) (by decide) fun du K5 du0 du1 u5 => ?_
        have f6 := f5.stp pL pF u5
        have hM5 := hM4.stp2 f5.st.q u5
        have e5 : SqT K K5 t3 vs3 := same_seqT (u5.s.trans (hid_same p K5)) (by
          obtain ⟨xa, xb, xc, xe, _⟩ := f5.st.q
          exact sqT_hid xe (.inl (.inl e4)))
        walk_at "go"
        refine c_newT (by simp) fun t6 K6 n6 w6 e6 => ?_
        walk_at "go"
        refine c_newT (by simp) fun t7 K7 n7 w7 e7 => ?_
        have w67 := w6.trans w7
        have hvl3 := hM3.1
        refine c_catT (same_seqT w67 e5) (.inl (.inl e7)) (by simp; omega) fun t8 K8 w8 hT8 => ?_
        have w68 := w67.trans w8
        have f7 := f6.stp pL pF (.of f6.st.q w68)
        have hun : MvAt K K8 (.ref t6) (true, some (1 + du)) := ⟨t6, _, rfl, .inl (.inl (w8 _ _ (w7 _ _ e6))), rfl, by omega⟩
        have hM8 : All2 (MvAt K K8) (vs3 ++ [.ref t6]) (ms3 ++ [(true, some (1 + du))]) := (hM5.imp fun _ _ => MvAt.mono w68).app (All2.one hun)
        walk_at "go"
        refine ⟨.inl ⟨rfl, _, .inl (.inl f7.e2)⟩, ?_⟩
        walk_at "go"
        refine c_draw f7.st.q (by decide) (by decide) fun dt K9 dt0 dt1 u9 => ?_
        have f8 := f7.stp pL pF u9
        have hM9 := hM8.stp2 f7.st.q u9
        have hT9 : SqT K K9 t8 (vs3 ++ [.ref t6]) := same_seqT (u9.s.trans (hid_same p K9)) (by
          obtain ⟨xa, xb, xc, xe, _⟩ := f7.st.q
          exact sqT_hid xe hT8)
        walk_at "go"
        refine c_newL (by simp) fun NL K10 n10 w10 e10 => ?_
        walk_at "go"
        have f9 := f8.stp pL pF (.of f8.st.q w10)
        refine .inr ⟨_, rfl, ?_⟩
        obtain ⟨j, mv, ej, em, hmv, hmv3⟩ : ∃ (j : Nat) (mv : Int), (if decide (V.int m = V.int 0) = true then (1 : Int) else 0) = (j : Int) ∧ ([V.int (1 + dt), V.int (10 ^ Int.toNat 30)] : List V)[j]? = some (V.int mv) ∧ (1 ≤ mv ∧ mv ≤ 1000000000000000000000000000000) ∧ (m ≠ 0 → mv ≤ 5) := by
          by_cases zz : V.int m = V.int 0
          · exact ⟨1, 10 ^ Int.toNat 30, by rw [decide_eq_true zz]; rfl, rfl, by decide, fun zm => absurd (V.int.inj zz) zm⟩
          · exact ⟨0, 1 + dt, by rw [decide_eq_false zz]; rfl, rfl, by omega, fun _ => by omega⟩
        refine c_ixL (.inl (.inl e10)) j ej em ?_
        walk_at "go"
        refine c_newT (by simp) fun t11 K11 n11 w11 e11 => ?_
        walk_at "go"
        have f10 := f9.stp pL pF (.of f9.st.q w11)
        have hul10 := f10.hA.1
        refine c_app2 f10.e2 (by omega) ?_
        have hMv : ∀ x ∈ ms3 ++ [(true, some (1 + du))], MvOk x := fun x hx => by
          rcases List.mem_append.mp hx with hx | hx
          · exact hmo3 x hx
          · have : x = (true, some (1 + du)) := by simpa using hx
            rw [this]
            exact ⟨by omega, lt500 (by omega)⟩
        have hrl : (ms3 ++ [(true, some (1 + du))]).length = ms3.length + 1 := by simp
        have hrep : CmdAt K K11 (.ref t11) (.rep mv (ms3 ++ [(true, some (1 + du))])) := ⟨t11, t8, _, rfl, .inl (.inl e11), same_seqT (w10.trans w11) hT9, hM9.imp fun _ _ => MvAt.mono (w10.trans w11), hmv.1, by omega, by omega⟩
        have f11 := f10.put nF0 pF LF (All2.one hrep) (CsOk.one ⟨hmv.1, lt500 hmv.2, by simp, hMv⟩ (show (ms3 ++ [(true, some (1 + du))]).length ≤ 100 by omega))
        walk_at "go"
        have hlr : ∀ x ∈ ms3 ++ [(true, some (1 + du))], AmLim m x.2 := fun x hx => by
          rcases List.mem_append.mp hx with hx | hx
          · exact hlm3 x hx
          · have : x = (true, some (1 + du)) := by simpa using hx
            rw [this]
            exact fun _ k e => by cases e; omega
        (
          have fx := f11
          refine ⟨.inl ⟨rfl, _, .inl (.inl fx.e2)⟩, ?_⟩
          walk_at "go"
          refine c_newT (by simp) fun tt K8 nt s8 e8 => ?_
          walk_at "go"
          have f8 := fx.stp pL pF (.of fx.st.q s8)
          have hul8 := f8.hA.1
          refine c_app2 f8.e2 (by simp at hul8 ⊢; omega) ?_
          refine ⟨_, _, _, _, rfl, f8.put nF0 pF LF (All2.one (show CmdAt K K8 (.ref tt) (.dd z) from ⟨tt, rfl, .inl (.inl e8), hzn⟩)) (CsOk.one hzn trivial), ?_, Sms.app (Sms.app (Sms.app hsm (Sms.mvs hlm)) (Sms.one (c := .rep mv (ms3 ++ [(true, some (1 + du))])) ⟨fun h0 => hmv3 (by omega), by omega, hlr⟩)) (Sms.one trivial)⟩
          simp
          omega)
      · walk_at "go"
        (
          have fx := f3
          refine ⟨.inl ⟨rfl, _, .inl (.inl fx.e2)⟩, ?_⟩
          walk_at "go"
          refine c_newT (by simp) fun tt K8 nt s8 e8 => ?_
          walk_at "go"
          have f8 := fx.stp pL pF (.of fx.st.q s8)
          have hul8 := f8.hA.1
          refine c_app2 f8.e2 (by simp at hul8 ⊢; omega) ?_
          refine ⟨_, _, _, _, rfl, f8.put nF0 pF LF (All2.one (show CmdAt K K8 (.ref tt) (.dd z) from ⟨tt, rfl, .inl (.inl e8), hzn⟩)) (CsOk.one hzn trivial), ?_, Sms.app (Sms.app hsm (Sms.mvs hlm)) (Sms.one trivial)⟩
          simp
          omega)
    · obtain ⟨us, cs, y5, y6, rfl, ⟨st, e1, e2, hA, hok⟩, hl, hsm⟩ := h
      have hdn : ((ns.take dn).map V.str).length ≤ n.toNat := by
        rw [List.length_map, List.length_take]
        omega
      walk_at "go"
      refine ⟨p, 4, m, rfl, st.q, by decide, by decide, m0, m1, fun D vs2 ms K1 nD u1 eD hM hmo hml hlm => ?_⟩
      have e2' := u1.at e2 pF
      have hA' := Cmds.stp st.q u1 hA
      have hul := hA'.1
      have hvl := hM.1
      refine c_catL e2' eD (by omega) fun R K2 nR w2 eR => ?_
      walk_at "go"
      refine c_tupOfL (.inl (.inl eR)) fun t K3 n3 w3 e3 => ?_
      have w23 := w2.trans w3
      exact q t _ (cs ++ ms.map .mv) K3 (st.trans (u1.trans (.of u1.q w23))) (.inl (.inl e3)) ((hA'.app (Cmds.of hM)).imp fun _ _ => CmdAt.mono w23) (hok.app (CsOk.mvs hmo)) (by rw [List.length_append, List.length_map]; omega) (Sms.app hsm (Sms.mvs hlm))
theorem ok_steps2 (T : TX K mg) : FnOk P w K mg base CX0 4 T.f_law_steps T.fd_law_steps pSteps (spSteps K) := (ok_steps3 T).imp fun vs H Q E ⟨p, n, m, e, h1, h2, h3, h4, h5, q⟩ => ⟨p, n, m, e, h1, h2, h3, h4, h5, fun t us cs H' a b c d e _ => q t us cs H' a b c d e⟩
end
end Und
set_option exponentiation.threshold 4000
namespace Und
open PySem PySem.Spec PyProof.Rows L2 LamX
local macro_rules | `(tactic| walk_at "side") => `(tactic| first | decide | omega | exact ⟨by omega, by omega⟩ | (show (0 : Int) < _; omega) | (exact Or.inl ⟨by omega, by omega⟩) | (exact Or.inr ⟨by omega, by omega⟩) | (exact sz (by simp)) | (exact szl (by simp)))
local macro_rules | `(tactic| walk_at "u") => `(tactic| first
  | with_reducible refine c_seq ?_ | with_reducible refine c_next ?_ | with_reducible refine c_yes ?_ | with_reducible refine c_asg ?_ | with_reducible refine c_asg2 ?_ | with_reducible refine c_par ?_ | with_reducible refine c_two ?_ | with_reducible refine c_g ?_ | with_reducible refine c_gsub ?_ | with_reducible refine c_gcons ?_ | with_reducible refine c_gnil ?_ | with_reducible refine c_ret ?_ | with_reducible refine c_drop ?_
  | ((with_reducible refine c_var (v := ?v) ?h ?_); (case h => rfl)) | with_reducible refine c_c ?_ | with_reducible refine c_op ?_ | with_reducible refine c_un ?_ | with_reducible refine c_I0 ?_
  | ((with_reducible refine c_I ?h ?_); (case h => walk_at "side"))
  | ((with_reducible refine c_eq ?h ?_); (case h => rfl)) | ((with_reducible refine c_neq ?h ?_); (case h => rfl)) | with_reducible refine c_test ?_ | with_reducible refine c_B ?_ | with_reducible refine c_bl ?_ | with_reducible refine c_int ?_ | with_reducible refine c_ifs ?_ | with_reducible refine c_ife ?_
  | with_reducible refine c_andV ?_ | with_reducible refine c_orV ?_ | with_reducible refine c_notV ?_ | with_reducible refine c_and ?_ | with_reducible refine c_or ?_ | with_reducible refine c_not ?_
  | with_reducible refine c_call ?_ | with_reducible refine c_cb ?_ | with_reducible refine c_nil ?_ | with_reducible refine c_cons ?_
  | with_reducible refine c_tup ?_ | with_reducible refine c_lst ?_ | with_reducible refine c_sl ?_ | with_reducible refine c_nop ?_ | with_reducible refine c_part ?_ | with_reducible refine c_fld ?_
  | with_reducible refine c_for ?_ | with_reducible refine c_ilist ?_ | with_reducible refine c_itup ?_ | with_reducible refine c_irng1 ?_ | with_reducible refine c_lc ?_
  | with_reducible refine c_m1 ?_ | with_reducible refine c_isS ?_ | with_reducible refine c_chain ?_ | with_reducible refine c_str ?_ | with_reducible refine c_make ?_ | with_reducible refine c_meth ?_ | with_reducible refine c_prop ?_ | with_reducible refine c_sfld ?_ | with_reducible refine c_ienumT ?_ | with_reducible refine iteT ?_ | with_reducible refine iteF ?_ | with_reducible refine iteNT ?_ | with_reducible refine iteNF ?_
  | ((with_reducible refine iteDT ?h ?_); (case h => first | rfl | omega)) | ((with_reducible refine iteDF ?h ?_); (case h => first | omega | (intro z; cases z; done))) | ((with_reducible refine iteNDT ?h ?_); (case h => first | rfl | omega)) | ((with_reducible refine iteNDF ?h ?_); (case h => first | omega | (intro z; cases z; done))))
local macro_rules | `(tactic| walk_at "go") => `(tactic| repeat (walk_at "u"))
local macro_rules | `(tactic| walk_at "u") => `(tactic| first | with_reducible refine c_lstB ?_ | with_reducible refine c_upper ?_)
local macro_rules | `(tactic| walk_at "lit") => `(tactic| repeat (first | with_reducible exact lx_nil | with_reducible apply lx_cons | with_reducible exact lx_non | with_reducible exact lx_bl | with_reducible exact lx_int | with_reducible exact lx_str | with_reducible exact lx_neg | with_reducible exact lx_dic | with_reducible apply lx_tup | with_reducible apply lx_lst | with_reducible apply lx_pow | decide | exact ⟨by decide, by decide, by decide⟩))
section
variable {P : Program} {w : World} {K : PySem.W.Frag} {mg : Str → Option Value} {base : Heap}
/-- what comes of a value when a part of it is put otherwise -/
def Bnt (n : Nat) (d d' : PyData) : Prop := Lv (n + 1) d' ∧ wt d' ≤ 2 * wt d + 6000 ∧ d'.depth ≤ d.depth + 1
theorem pickD {p F : Addr} {H1 : Hp} {Q : VK} {E : XK} {xs : List V} {ds : List PyData} {m : Nat} {j : Int} (hj : j = (m : Int)) (q0 : Pool H1 p) (e1 : H1 F = some (.lst xs)) (pF : p ≠ F) (hl : ds.length = m) (h0 : 0 < m) (h1 : m < 1000) (hD : DxAll K (hid p H1) xs ds)
    (k : ∀ v d H2, Stp p H1 H2 → Dx K (hid p H2) v d → d ∈ ds → Q v H2) : spDraw ([.ref p, .int j] ++ []) H1 (fun y H2 => rIxL K (.ref F) y H2 Q) E := by
  subst hj
  refine c_draw q0 (by omega) (by omega) fun r H2 r0 r1 s2 => ?_
  have hx := hD.len
  refine c_ixL (.inl (.inl (s2.at e1 pF))) r.toNat (by omega) (List.getElem?_eq_getElem (by omega)) ?_
  obtain ⟨d, hd, hv⟩ := hD.mem (i := r.toNat) (List.getElem?_eq_getElem (by omega))
  exact k _ d H2 s2 (hv.mono s2.s) hd
theorem ofs_ascii {x : String} (h : (Str.ofString x).cps.toList.all (fun c => decide (c < 128)) = true) : ∀ c ∈ (Str.ofString x).cps.toList, c < 128 := fun c hc => of_decide_eq_true (List.all_eq_true.mp h c hc)
theorem lv_ofs {n : Nat} {x : String} (h : ((Str.ofString x).cps.toList.all (fun c => decide (c < 128)) && decide ((Str.ofString x).length ≤ 600)) = true) : Lv n (.str (Str.ofString x)) := by
  rw [Bool.and_eq_true] at h
  exact .str _ (ofs_ascii h.1) (Nat.le_trans (of_decide_eq_true h.2) (by omega))
theorem wt_ofs {x : String} {m : Nat} (h : decide (10 * (Str.ofString x).length + 2 ≤ m) = true) : wt (.str (Str.ofString x)) ≤ m := of_decide_eq_true h
theorem up1_lt : ∀ c < 128, up1 c < 128 := by decide +kernel
theorem upper_len {z : Str} (h : ∀ c ∈ z.cps.toList, c < 128) : (Txt.upper z).length = z.length ∧ ∀ c ∈ (Txt.upper z).cps.toList, c < 128 := by
  rw [upper_ascii h]
  refine ⟨by show (z.cps.map up1).size = z.cps.size; simp, fun c hc => ?_⟩
  rw [show (⟨z.cps.map up1⟩ : Str).cps.toList = z.cps.toList.map up1 from Array.toList_map ..] at hc
  obtain ⟨x, hx, rfl⟩ := List.mem_map.mp hc
  exact up1_lt x (h x hx)
theorem digits_ascii {i : Int} : ∀ c ∈ (Str.ofString (toString i)).cps.toList, c < 128 := by
  by_cases h : 0 ≤ i
  · intro c hc
    have := nt_all h c hc
    omega
  · rw [toString_neg (by omega), signs_ofString, String.toList_append, List.map_append, ← signs_ofString, ← signs_ofString]
    intro c hc
    rcases List.mem_append.mp hc with hc | hc
    · exact ofs_ascii (x := "-") (by decide +kernel) c hc
    · have := nt_all (n := 0 - i) (by omega) c hc
      omega
theorem bnt_ofs {n : Nat} {d : PyData} {x : String} (h : ((Str.ofString x).cps.toList.all (fun c => decide (c < 128)) && decide ((Str.ofString x).length ≤ 500)) = true) : Bnt n d (.str (Str.ofString x)) := by
  rw [Bool.and_eq_true] at h
  have l := of_decide_eq_true h.2
  refine ⟨.str _ (ofs_ascii h.1) (by omega), ?_, by simp [PyData.depth]⟩
  show 10 * _ + 2 ≤ _
  omega
theorem bnt_non {n : Nat} {d : PyData} : Bnt n d .none := ⟨.non, by show 4 ≤ _; omega, by simp [PyData.depth]⟩
theorem bnt_bl {n : Nat} {d : PyData} {b : Bool} : Bnt n d (.bool b) := ⟨.bl b, by show 5 ≤ _; omega, by simp [PyData.depth]⟩
theorem bnt_int {n : Nat} {d : PyData} {i : Int} (h : i.natAbs ≤ 10 ^ 500 + n + 1) : Bnt n d (.int i) := ⟨.int i h, by show 600 ≤ _; omega, by simp [PyData.depth]⟩
theorem na_up {B n : Nat} {i : Int} (h : i.natAbs ≤ B + n) : (i + 1).natAbs ≤ B + n + 1 ∧ (i - 1).natAbs ≤ B + n + 1 ∧ (0 - i).natAbs ≤ B + n + 1 := by omega
theorem bnt_int0 {n : Nat} {d : PyData} {i : Int} (h : i.natAbs ≤ 10) : Bnt n d (.int i) := by
  have : 10 ≤ 10 ^ 500 := by decide +kernel
  exact bnt_int (by omega)
theorem bnt_l1 {n : Nat} {d : PyData} (h : Lv n d) (hd : d.depth = 0) : Bnt n d (.list [d]) := ⟨.lst _ (by simp; omega) fun e he => by
  rw [List.mem_singleton.mp he]
  exact h.up, by show wt d + 2 + 0 + 3 ≤ _; omega, by simp [PyData.depth, PyData.depthAll, hd]⟩
theorem bnt_t1 {n : Nat} {d : PyData} (h : Lv n d) (hd : d.depth = 0) : Bnt n d (.tuple [d]) := ⟨.tup _ (by simp; omega) fun e he => by
  rw [List.mem_singleton.mp he]
  exact h.up, by show wt d + 2 + 0 + 3 ≤ _; omega, by simp [PyData.depth, PyData.depthAll, hd]⟩
theorem bnt_dic {n : Nat} {d : PyData} : Bnt n d (.dict []) := ⟨.dic, by show 2 ≤ _; omega, by simp [PyData.depth, PyData.depthKv]⟩
def spPart (K : PySem.W.Frag) : Sp := fun vs H Q _ => ∃ (p : Addr) (v : V) (d : PyData) (n : Nat), vs = [.ref p, v] ∧ Pool H p ∧ Dx K (hid p H) v d ∧ Lv n d ∧ n ≤ 5 ∧ wt d ≤ 30000 ∧
  ∀ v' d' H', Stp p H H' → Dx K (hid p H') v' d' → Bnt n d d' → Q v' H'
theorem ok_part (T : TX K mg) : FnOk P w K mg base CX0 2 T.f_law_part T.fd_law_part pLPart (spPart K) := by
  have G_law_draw := ok_draw (P := P) (w := w) (K := K) (base := base) T.d_law_draw T.divmod
  refine T.d_law_part.F.ok scLPart (fun vs H Q E h => ?_) (fun cdv A outer s H vs Q E hr h => ?_)
  · obtain ⟨p, v, d, n, rfl, _⟩ := h
    rfl
  · obtain ⟨p, v, d, n, rfl, pool, hv, hlv, hn, hw, q⟩ := h
    refine ⟨_, pss_cons (ps_if (pt_val (pe_callB (callIsi (K := K)) (by rfl) T.isinstance (by decide +kernel) (pa_cons (pv 1) (pa_cons (pe_bltn (v := .ty "str") (by rfl) T.str (by decide +kernel) rfl) pa_nil)))) (pss_cons (ps_set (i := 2) scLPart.nd rfl (.inl rfl) (peLstB (pa_cons (pe_str) (pa_cons (pe_str) (pa_cons (pe_str) (pa_cons (pe_str) (pa_cons (pe_str) (pa_cons (pe_str) (pa_cons (pe_op opAddS (pv 1) (pe_str)) (pa_cons (peUpper (pv 1)) (pa_cons (pe_non) (pa_cons (pe_int) (pa_cons (peLstB (pa_cons (pv 1) pa_nil)) pa_nil)))))))))))))
      (pss_one (ps_ret (pe_ix (ixL (K := K)) (pv 2) (pcall T.d_law_draw G_law_draw (hr.mono (by decide)) (by rfl) pass0 (pa_cons (pv 0) (pa_cons (pe_callB (callLn (K := K)) (by rfl) T.len (by decide +kernel) (pa_cons (pv 2) pa_nil)) pa_nil))) (fun _ _ => rfl))))) (pss_nil))
      (pss_cons (ps_if (pt_val (pe_callB (callIsi (K := K)) (by rfl) T.isinstance (by decide +kernel) (pa_cons (pv 1) (pa_cons (pe_bltn (v := .ty "int") (by rfl) T.int (by decide +kernel) rfl) pa_nil)))) (pss_cons (ps_set (i := 2) scLPart.nd rfl (.inl rfl) (peLstB (pa_cons (pe_op opAddNB (pv 1) (pe_int)) (pa_cons (pe_op opSubNB (pv 1) (pe_int)) (pa_cons (pe_int) (pa_cons (pe_op opSubBN (pe_int) (pv 1)) (pa_cons (pe_cmpR opEqNB (pv 1) (pe_int) (nomark _)) (pa_cons (pe_bl) (pa_cons (pe_bl) (pa_cons (pe_callTy callStrNB (by rfl) T.str (by decide +kernel) (pa_cons (pv 1) pa_nil)) (pa_cons (pe_non) pa_nil)))))))))))
      (pss_cons (ps_set (i := 2) scLPart.nd rfl (.inl rfl) (pe_op op_cat (pv 2) (peLstB (pa_cons (pe_tup (pa_cons (pv 1) pa_nil)) (pa_cons (peLstB (pa_cons (pv 1) pa_nil)) (pa_cons (pe_dnewK) pa_nil))))))
      (pss_one (ps_ret (pe_ix (ixL (K := K)) (pv 2) (pcall T.d_law_draw G_law_draw (hr.mono (by decide)) (by rfl) pass0 (pa_cons (pv 0) (pa_cons (pe_callB (callLn (K := K)) (by rfl) T.len (by decide +kernel) (pa_cons (pv 2) pa_nil)) pa_nil))) (fun _ _ => rfl)))))) (pss_nil))
      (pss_one (ps_ret (pe_ix (ixL (K := K)) (peLstB (pa_cons (pe_int) (pa_cons (pe_bl) (pa_cons (pe_str) (pa_cons (pe_tup (pa_nil)) (pa_cons (peLstB (pa_nil)) (pa_cons (pe_dnewK) (pa_cons (pe_tup (pa_cons (pe_str) (pa_cons (pe_int) pa_nil))) pa_nil)))))))) (pcall T.d_law_draw G_law_draw (hr.mono (by decide)) (by rfl) pass0 (pa_cons (pv 0) (pa_cons (pe_int) pa_nil))) (fun _ _ => rfl))))), ?_⟩
    walk_at "go"
    have hty0 := tyx_mono (hid_same p H) hv.ty
    obtain ⟨pa, pb, pc, hpn, _⟩ := id pool
    cases d with
    | str z =>
      obtain rfl := dx_str hv
      have hty : TyX K H (.str z) (.type "str") := hty0
      obtain ⟨hz, hzl⟩ : (∀ c ∈ z.cps.toList, c < 128) ∧ z.length ≤ 600 + n := by
        cases hlv with
        | str _ a b => exact ⟨a, b⟩
      have e1 : (Str.ofString "s").length = 1 := by decide +kernel
      refine c_isi (r := true) hty (by decide +kernel) ?_
      walk_at "go"
      refine c_addS (by omega) ?_
      walk_at "go"
      refine ⟨z, rfl, rfl, by omega, ?_⟩
      walk_at "go"
      refine c_newLB (by simp) fun l H1 n1 b1 s1 e1' => ?_
      walk_at "go"
      refine c_newLB (by simp) fun F H2 n2 b2 s2 e2 => ?_
      have st2 : Stp p H H2 := .of pool (s1.trans s2)
      have pl := pool.ne n1
      have pF := pool.ne (s1.free n2)
      walk_at "go"
      refine c_lnL (.inl (.inl e2)) ?_
      have hD : DxAll K (hid p H2) _ [.str "do", .str "undo", .str "redo", .str "repeat", .str "a", .str "", .str (z ++ "s"), .str (Txt.upper z), .none, .int 1, .list [.str z]] :=
        .cons (.str _) (.cons (.str _) (.cons (.str _) (.cons (.str _) (.cons (.str _) (.cons (.str _) (.cons (.str _) (.cons (.str _) (.cons .non (.cons (.int _) (.cons (.lst ((hid_ne pl.symm).trans (s2 _ _ e1')) b1 (.cons (.str _) .nil)) .nil))))))))))
      refine pickD (E := L2.E0) (m := 11) rfl st2.q e2 pF rfl (by decide) (by decide) hD fun v' d' H3 s3 hv' hd' => ?_
      refine q v' d' H3 (st2.trans s3) hv' ?_
      simp only [List.mem_cons, List.not_mem_nil, or_false] at hd'
      rcases hd' with rfl | rfl | rfl | rfl | rfl | rfl | rfl | rfl | rfl | rfl | rfl
      · exact bnt_ofs (by decide +kernel)
      · exact bnt_ofs (by decide +kernel)
      · exact bnt_ofs (by decide +kernel)
      · exact bnt_ofs (by decide +kernel)
      · exact bnt_ofs (by decide +kernel)
      · exact bnt_ofs (by decide +kernel)
      · refine ⟨.str _ (fun c hc => ?_) (by rw [PySem.Str.length_append, e1]; omega), ?_, by simp [PyData.depth]⟩
        · rw [PySem.Str.cps_append, Array.toList_append] at hc
          rcases List.mem_append.mp hc with hc | hc
          · exact hz c hc
          · exact ofs_ascii (x := "s") (by decide +kernel) c hc
        · show 10 * (z ++ Str.ofString "s").length + 2 ≤ 2 * (10 * z.length + 2) + 6000
          rw [PySem.Str.length_append, e1]
          omega
      · obtain ⟨a, b⟩ := upper_len hz
        refine ⟨.str _ b (by omega), ?_, by simp [PyData.depth]⟩
        show 10 * (Txt.upper z).length + 2 ≤ 2 * (10 * z.length + 2) + 6000
        omega
      · exact bnt_non
      · exact bnt_int0 (by decide)
      · exact bnt_l1 hlv rfl
    | int i =>
      obtain rfl : v = .int i := by
        cases hv
        rfl
      have hi : i.natAbs ≤ 10 ^ 500 + n := by
        cases hlv with
        | int _ a => exact a
      have hty : TyX K H (.int i) (.type "int") := hty0
      have h501 : i.natAbs < 10 ^ 501 := by
        have c : 10 ^ 500 + 10 < 10 ^ 501 := by decide +kernel
        omega
      have hlog : i.natAbs.log2 < 1920 := by
        have c : 10 ^ 501 < 2 ^ 1700 := by decide +kernel
        exact Nat.lt_trans (PySem.Flt.log2_lt_of (by decide) (Nat.lt_trans h501 c)) (by decide)
      refine c_isi (r := false) hty (by decide +kernel) ?_
      walk_at "go"
      refine c_isi (r := true) hty (by decide +kernel) ?_
      walk_at "go"
      have hsv : ∃ sv : Str, (∀ {Q' : VK}, Q' (.str sv) H → rStrNB [.int i] H Q') ∧ (∀ c ∈ sv.cps.toList, c < 128) ∧ sv.length ≤ 502 := ⟨Str.ofString (toString i), fun h => .inl ⟨i, rfl, hlog, h⟩, digits_ascii, int_len h501⟩
      (
        refine ⟨i, 1, rfl, rfl, ?_⟩
        walk_at "go"
        refine ⟨i, 1, rfl, rfl, ?_⟩
        walk_at "go"
        refine ⟨0, i, rfl, rfl, ?_⟩
        walk_at "go"
        refine ⟨i, 1, rfl, rfl, ?_⟩
        walk_at "go"
        obtain ⟨sv, hs, hsa, hsl⟩ := hsv
        refine hs ?_
        walk_at "go"
        refine c_newLB (by simp) fun F H1 nF bF s1 eF => ?_
        walk_at "go"
        refine c_newT (by simp) fun t1 H2 n1 s2 e2 => ?_
        walk_at "go"
        refine c_newLB (by simp) fun l1 H3 n3 b3 s3 e3 => ?_
        walk_at "go"
        refine c_dnew fun d1 H4 n4 s4 e4 => ?_
        walk_at "go"
        refine c_newLB (by simp) fun G H5 n5 b5 s5 e5 => ?_
        have s25 := s2.trans (s3.trans (s4.trans s5))
        refine c_catL (s25 _ _ eF) e5 (by simp) fun F2 H6 n6 s6 e6 => ?_
        have st6 : Stp p H H6 := .of pool ((s1.trans s25).trans s6)
        have s16 := (s1.trans s25).trans s6
        have pF2 := pool.ne ((s1.trans s25).free n6)
        have pt := pool.ne (s1.free n1)
        have pl := pool.ne ((s1.trans s2).free n3)
        have pd := pool.ne (((s1.trans s2).trans s3).free n4)
        have f2 := s6 _ _ (s5 _ _ (s4 _ _ (s3 _ _ e2)))
        have f3 := s6 _ _ (s5 _ _ (s4 _ _ e3))
        have f4 := s6 _ _ (s5 _ _ e4)
        walk_at "go"
        refine c_lnL (.inl (.inl e6)) ?_
        have hD : DxAll K (hid p H6) _ ([.int (i + 1), .int (i - 1), .int 0, .int (0 - i), .bool (decide (i = 1)), .bool true, .bool false, .str sv, .none] ++ [.tuple [(.int i)], .list [(.int i)], .dict []]) :=
          .cons (.int _) (.cons (.int _) (.cons (.int _) (.cons (.int _) (.cons (.bl _) (.cons (.bl _) (.cons (.bl _) (.cons (.str _) (.cons .non
            (.cons (.tup (.inl (.inl ((hid_ne pt.symm).trans f2))) (.cons (hv.mono (hid_mono s16)) .nil)) (.cons (.lst ((hid_ne pl.symm).trans f3) b3 (.cons (hv.mono (hid_mono s16)) .nil)) (.cons (.emp ((hid_ne pd.symm).trans f4)) .nil)))))))))))
        refine pickD (E := L2.E0) (m := 12) rfl st6.q e6 pF2 rfl (by decide) (by decide) hD fun v' d' H7 s7 hv' hd' => ?_
        refine q v' d' H7 (st6.trans s7) hv' ?_
        simp only [List.mem_cons, List.not_mem_nil, or_false, List.cons_append, List.nil_append] at hd'
        rcases hd' with rfl | rfl | rfl | rfl | rfl | rfl | rfl | rfl | rfl | rfl | rfl | rfl
        · exact bnt_int (na_up hi).1
        · exact bnt_int (na_up hi).2.1
        · exact bnt_int0 (by decide)
        · exact bnt_int (na_up hi).2.2
        · exact bnt_bl
        · exact bnt_bl
        · exact bnt_bl
        · exact ⟨.str _ hsa (by omega), by show 10 * _ + 2 ≤ _; omega, by simp [PyData.depth]⟩
        · exact bnt_non
        · exact bnt_t1 hlv rfl
        · exact bnt_l1 hlv rfl
        · exact bnt_dic)
    | bool b =>
      obtain rfl : v = .bl b := by
        cases hv
        rfl
      have hty : TyX K H (.bl b) (.type "bool") := hty0
      refine c_isi (r := false) hty (by decide +kernel) ?_
      walk_at "go"
      refine c_isi (r := true) hty (by decide +kernel) ?_
      walk_at "go"
      have hsv : ∃ sv : Str, (∀ {Q' : VK}, Q' (.str sv) H → rStrNB [.bl b] H Q') ∧ (∀ c ∈ sv.cps.toList, c < 128) ∧ sv.length ≤ 502 := by
        refine ⟨_, fun h => .inr ⟨b, rfl, h⟩, ?_, ?_⟩
        · cases b
          · exact ofs_ascii (x := "False") (by decide +kernel)
          · exact ofs_ascii (x := "True") (by decide +kernel)
        · cases b <;> decide +kernel
      obtain ⟨i, hnb, hi⟩ : ∃ i : Int, nbI (.bl b) = some i ∧ i.natAbs ≤ 10 ^ 500 + n := by
        cases b
        · exact ⟨0, rfl, by simp⟩
        · exact ⟨1, rfl, by have : 1 ≤ 10 ^ 500 := by decide +kernel
                            omega⟩
      (
        refine ⟨i, 1, hnb, rfl, ?_⟩
        walk_at "go"
        refine ⟨i, 1, hnb, rfl, ?_⟩
        walk_at "go"
        refine ⟨0, i, rfl, hnb, ?_⟩
        walk_at "go"
        refine ⟨i, 1, hnb, rfl, ?_⟩
        walk_at "go"
        obtain ⟨sv, hs, hsa, hsl⟩ := hsv
        refine hs ?_
        walk_at "go"
        refine c_newLB (by simp) fun F H1 nF bF s1 eF => ?_
        walk_at "go"
        refine c_newT (by simp) fun t1 H2 n1 s2 e2 => ?_
        walk_at "go"
        refine c_newLB (by simp) fun l1 H3 n3 b3 s3 e3 => ?_
        walk_at "go"
        refine c_dnew fun d1 H4 n4 s4 e4 => ?_
        walk_at "go"
        refine c_newLB (by simp) fun G H5 n5 b5 s5 e5 => ?_
        have s25 := s2.trans (s3.trans (s4.trans s5))
        refine c_catL (s25 _ _ eF) e5 (by simp) fun F2 H6 n6 s6 e6 => ?_
        have st6 : Stp p H H6 := .of pool ((s1.trans s25).trans s6)
        have s16 := (s1.trans s25).trans s6
        have pF2 := pool.ne ((s1.trans s25).free n6)
        have pt := pool.ne (s1.free n1)
        have pl := pool.ne ((s1.trans s2).free n3)
        have pd := pool.ne (((s1.trans s2).trans s3).free n4)
        have f2 := s6 _ _ (s5 _ _ (s4 _ _ (s3 _ _ e2)))
        have f3 := s6 _ _ (s5 _ _ (s4 _ _ e3))
        have f4 := s6 _ _ (s5 _ _ e4)
        walk_at "go"
        refine c_lnL (.inl (.inl e6)) ?_
        have hD : DxAll K (hid p H6) _ ([.int (i + 1), .int (i - 1), .int 0, .int (0 - i), .bool (decide (i = 1)), .bool true, .bool false, .str sv, .none] ++ [.tuple [(.bool b)], .list [(.bool b)], .dict []]) :=
          .cons (.int _) (.cons (.int _) (.cons (.int _) (.cons (.int _) (.cons (.bl _) (.cons (.bl _) (.cons (.bl _) (.cons (.str _) (.cons .non
            (.cons (.tup (.inl (.inl ((hid_ne pt.symm).trans f2))) (.cons (hv.mono (hid_mono s16)) .nil)) (.cons (.lst ((hid_ne pl.symm).trans f3) b3 (.cons (hv.mono (hid_mono s16)) .nil)) (.cons (.emp ((hid_ne pd.symm).trans f4)) .nil)))))))))))
        refine pickD (E := L2.E0) (m := 12) rfl st6.q e6 pF2 rfl (by decide) (by decide) hD fun v' d' H7 s7 hv' hd' => ?_
        refine q v' d' H7 (st6.trans s7) hv' ?_
        simp only [List.mem_cons, List.not_mem_nil, or_false, List.cons_append, List.nil_append] at hd'
        rcases hd' with rfl | rfl | rfl | rfl | rfl | rfl | rfl | rfl | rfl | rfl | rfl | rfl
        · exact bnt_int (na_up hi).1
        · exact bnt_int (na_up hi).2.1
        · exact bnt_int0 (by decide)
        · exact bnt_int (na_up hi).2.2
        · exact bnt_bl
        · exact bnt_bl
        · exact bnt_bl
        · exact ⟨.str _ hsa (by omega), by show 10 * _ + 2 ≤ _; omega, by simp [PyData.depth]⟩
        · exact bnt_non
        · exact bnt_t1 hlv rfl
        · exact bnt_l1 hlv rfl
        · exact bnt_dic)
    | none =>
      have hty : TyX K H v (.type "NoneType") := hty0
      (
        refine c_isi (r := false) hty (by decide +kernel) ?_
        walk_at "go"
        refine c_isi (r := false) hty (by decide +kernel) ?_
        walk_at "go"
        refine c_newT (by simp) fun t1 G1 n1 s1 e1 => ?_
        walk_at "go"
        refine c_newLB (by simp) fun t2 G2 n2 b2 s2 e2 => ?_
        walk_at "go"
        refine c_dnew fun t3 G3 n3 s3 e3 => ?_
        walk_at "go"
        refine c_newT (by simp) fun t4 G4 n4 s4 e4 => ?_
        walk_at "go"
        refine c_newLB (by simp) fun F H1 nF bF s5 eF => ?_
        have s45 := s4.trans s5
        have s35 := s3.trans s45
        have s25 := s2.trans s35
        have st1 : Stp p H H1 := .of pool (s1.trans s25)
        have pF := pool.ne ((s1.trans (s2.trans (s3.trans s4))).free nF)
        have p1 := pool.ne n1
        have p2 := pool.ne (s1.free n2)
        have p3 := pool.ne ((s1.trans s2).free n3)
        have p4 := pool.ne ((s1.trans (s2.trans s3)).free n4)
        walk_at "go"
        have hD : DxAll K (hid p H1) _ [.int 1, .bool true, .str "all", .tuple [], .list [], .dict [], .tuple [.str "undo", .int 1]] :=
          .cons (.int _) (.cons (.bl _) (.cons (.str _) (.cons (.tup (.inl (.inl ((hid_ne p1.symm).trans (s25 _ _ e1)))) .nil) (.cons (.lst ((hid_ne p2.symm).trans (s35 _ _ e2)) b2 .nil) (.cons (.emp ((hid_ne p3.symm).trans (s45 _ _ e3))) (.cons (.tup (.inl (.inl ((hid_ne p4.symm).trans (s5 _ _ e4)))) (.cons (.str _) (.cons (.int _) .nil))) .nil))))))
        refine pickD (E := L2.E0) (m := 7) rfl st1.q eF pF rfl (by decide) (by decide) hD fun v' d' H2 s2 hv' hd' => ?_
        refine q v' d' H2 (st1.trans s2) hv' ?_
        simp only [List.mem_cons, List.not_mem_nil, or_false] at hd'
        rcases hd' with rfl | rfl | rfl | rfl | rfl | rfl | rfl
        · exact bnt_int0 (by decide)
        · exact bnt_bl
        · exact bnt_ofs (by decide +kernel)
        · exact ⟨.tup _ (by simp) (fun e he => by cases he), by show 0 + 3 ≤ _; omega, by simp [PyData.depth, PyData.depthAll]⟩
        · exact ⟨.lst _ (by simp) (fun e he => by cases he), by show 0 + 3 ≤ _; omega, by simp [PyData.depth, PyData.depthAll]⟩
        · exact bnt_dic
        · refine ⟨.tup _ (by simp; omega) (fun e he => ?_), ?_, by simp [PyData.depth, PyData.depthAll]⟩
          · simp only [List.mem_cons, List.not_mem_nil, or_false] at he
            rcases he with rfl | rfl
            · exact (bnt_ofs (d := .none) (by decide +kernel)).1
            · exact (bnt_int0 (d := .none) (by decide)).1
          · have : wt (.tuple [.str "undo", .int 1]) ≤ 6000 := by decide +kernel
            omega)
    | list ds =>
      have hty : TyX K H v (.type "list") := hty0
      (
        refine c_isi (r := false) hty (by decide +kernel) ?_
        walk_at "go"
        refine c_isi (r := false) hty (by decide +kernel) ?_
        walk_at "go"
        refine c_newT (by simp) fun t1 G1 n1 s1 e1 => ?_
        walk_at "go"
        refine c_newLB (by simp) fun t2 G2 n2 b2 s2 e2 => ?_
        walk_at "go"
        refine c_dnew fun t3 G3 n3 s3 e3 => ?_
        walk_at "go"
        refine c_newT (by simp) fun t4 G4 n4 s4 e4 => ?_
        walk_at "go"
        refine c_newLB (by simp) fun F H1 nF bF s5 eF => ?_
        have s45 := s4.trans s5
        have s35 := s3.trans s45
        have s25 := s2.trans s35
        have st1 : Stp p H H1 := .of pool (s1.trans s25)
        have pF := pool.ne ((s1.trans (s2.trans (s3.trans s4))).free nF)
        have p1 := pool.ne n1
        have p2 := pool.ne (s1.free n2)
        have p3 := pool.ne ((s1.trans s2).free n3)
        have p4 := pool.ne ((s1.trans (s2.trans s3)).free n4)
        walk_at "go"
        have hD : DxAll K (hid p H1) _ [.int 1, .bool true, .str "all", .tuple [], .list [], .dict [], .tuple [.str "undo", .int 1]] :=
          .cons (.int _) (.cons (.bl _) (.cons (.str _) (.cons (.tup (.inl (.inl ((hid_ne p1.symm).trans (s25 _ _ e1)))) .nil) (.cons (.lst ((hid_ne p2.symm).trans (s35 _ _ e2)) b2 .nil) (.cons (.emp ((hid_ne p3.symm).trans (s45 _ _ e3))) (.cons (.tup (.inl (.inl ((hid_ne p4.symm).trans (s5 _ _ e4)))) (.cons (.str _) (.cons (.int _) .nil))) .nil))))))
        refine pickD (E := L2.E0) (m := 7) rfl st1.q eF pF rfl (by decide) (by decide) hD fun v' d' H2 s2 hv' hd' => ?_
        refine q v' d' H2 (st1.trans s2) hv' ?_
        simp only [List.mem_cons, List.not_mem_nil, or_false] at hd'
        rcases hd' with rfl | rfl | rfl | rfl | rfl | rfl | rfl
        · exact bnt_int0 (by decide)
        · exact bnt_bl
        · exact bnt_ofs (by decide +kernel)
        · exact ⟨.tup _ (by simp) (fun e he => by cases he), by show 0 + 3 ≤ _; omega, by simp [PyData.depth, PyData.depthAll]⟩
        · exact ⟨.lst _ (by simp) (fun e he => by cases he), by show 0 + 3 ≤ _; omega, by simp [PyData.depth, PyData.depthAll]⟩
        · exact bnt_dic
        · refine ⟨.tup _ (by simp; omega) (fun e he => ?_), ?_, by simp [PyData.depth, PyData.depthAll]⟩
          · simp only [List.mem_cons, List.not_mem_nil, or_false] at he
            rcases he with rfl | rfl
            · exact (bnt_ofs (d := .none) (by decide +kernel)).1
            · exact (bnt_int0 (d := .none) (by decide)).1
          · have : wt (.tuple [.str "undo", .int 1]) ≤ 6000 := by decide +kernel
            omega)
    | tuple ds =>
      have hty : TyX K H v (.type "tuple") := hty0
      (
        refine c_isi (r := false) hty (by decide +kernel) ?_
        walk_at "go"
        refine c_isi (r := false) hty (by decide +kernel) ?_
        walk_at "go"
        refine c_newT (by simp) fun t1 G1 n1 s1 e1 => ?_
        walk_at "go"
        refine c_newLB (by simp) fun t2 G2 n2 b2 s2 e2 => ?_
        walk_at "go"
        refine c_dnew fun t3 G3 n3 s3 e3 => ?_
        walk_at "go"
        refine c_newT (by simp) fun t4 G4 n4 s4 e4 => ?_
        walk_at "go"
        refine c_newLB (by simp) fun F H1 nF bF s5 eF => ?_
        have s45 := s4.trans s5
        have s35 := s3.trans s45
        have s25 := s2.trans s35
        have st1 : Stp p H H1 := .of pool (s1.trans s25)
        have pF := pool.ne ((s1.trans (s2.trans (s3.trans s4))).free nF)
        have p1 := pool.ne n1
        have p2 := pool.ne (s1.free n2)
        have p3 := pool.ne ((s1.trans s2).free n3)
        have p4 := pool.ne ((s1.trans (s2.trans s3)).free n4)
        walk_at "go"
        have hD : DxAll K (hid p H1) _ [.int 1, .bool true, .str "all", .tuple [], .list [], .dict [], .tuple [.str "undo", .int 1]] :=
          .cons (.int _) (.cons (.bl _) (.cons (.str _) (.cons (.tup (.inl (.inl ((hid_ne p1.symm).trans (s25 _ _ e1)))) .nil) (.cons (.lst ((hid_ne p2.symm).trans (s35 _ _ e2)) b2 .nil) (.cons (.emp ((hid_ne p3.symm).trans (s45 _ _ e3))) (.cons (.tup (.inl (.inl ((hid_ne p4.symm).trans (s5 _ _ e4)))) (.cons (.str _) (.cons (.int _) .nil))) .nil))))))
        refine pickD (E := L2.E0) (m := 7) rfl st1.q eF pF rfl (by decide) (by decide) hD fun v' d' H2 s2 hv' hd' => ?_
        refine q v' d' H2 (st1.trans s2) hv' ?_
        simp only [List.mem_cons, List.not_mem_nil, or_false] at hd'
        rcases hd' with rfl | rfl | rfl | rfl | rfl | rfl | rfl
        · exact bnt_int0 (by decide)
        · exact bnt_bl
        · exact bnt_ofs (by decide +kernel)
        · exact ⟨.tup _ (by simp) (fun e he => by cases he), by show 0 + 3 ≤ _; omega, by simp [PyData.depth, PyData.depthAll]⟩
        · exact ⟨.lst _ (by simp) (fun e he => by cases he), by show 0 + 3 ≤ _; omega, by simp [PyData.depth, PyData.depthAll]⟩
        · exact bnt_dic
        · refine ⟨.tup _ (by simp; omega) (fun e he => ?_), ?_, by simp [PyData.depth, PyData.depthAll]⟩
          · simp only [List.mem_cons, List.not_mem_nil, or_false] at he
            rcases he with rfl | rfl
            · exact (bnt_ofs (d := .none) (by decide +kernel)).1
            · exact (bnt_int0 (d := .none) (by decide)).1
          · have : wt (.tuple [.str "undo", .int 1]) ≤ 6000 := by decide +kernel
            omega)
    | dict ks =>
      have hty : TyX K H v (.type "dict") := hty0
      (
        refine c_isi (r := false) hty (by decide +kernel) ?_
        walk_at "go"
        refine c_isi (r := false) hty (by decide +kernel) ?_
        walk_at "go"
        refine c_newT (by simp) fun t1 G1 n1 s1 e1 => ?_
        walk_at "go"
        refine c_newLB (by simp) fun t2 G2 n2 b2 s2 e2 => ?_
        walk_at "go"
        refine c_dnew fun t3 G3 n3 s3 e3 => ?_
        walk_at "go"
        refine c_newT (by simp) fun t4 G4 n4 s4 e4 => ?_
        walk_at "go"
        refine c_newLB (by simp) fun F H1 nF bF s5 eF => ?_
        have s45 := s4.trans s5
        have s35 := s3.trans s45
        have s25 := s2.trans s35
        have st1 : Stp p H H1 := .of pool (s1.trans s25)
        have pF := pool.ne ((s1.trans (s2.trans (s3.trans s4))).free nF)
        have p1 := pool.ne n1
        have p2 := pool.ne (s1.free n2)
        have p3 := pool.ne ((s1.trans s2).free n3)
        have p4 := pool.ne ((s1.trans (s2.trans s3)).free n4)
        walk_at "go"
        have hD : DxAll K (hid p H1) _ [.int 1, .bool true, .str "all", .tuple [], .list [], .dict [], .tuple [.str "undo", .int 1]] :=
          .cons (.int _) (.cons (.bl _) (.cons (.str _) (.cons (.tup (.inl (.inl ((hid_ne p1.symm).trans (s25 _ _ e1)))) .nil) (.cons (.lst ((hid_ne p2.symm).trans (s35 _ _ e2)) b2 .nil) (.cons (.emp ((hid_ne p3.symm).trans (s45 _ _ e3))) (.cons (.tup (.inl (.inl ((hid_ne p4.symm).trans (s5 _ _ e4)))) (.cons (.str _) (.cons (.int _) .nil))) .nil))))))
        refine pickD (E := L2.E0) (m := 7) rfl st1.q eF pF rfl (by decide) (by decide) hD fun v' d' H2 s2 hv' hd' => ?_
        refine q v' d' H2 (st1.trans s2) hv' ?_
        simp only [List.mem_cons, List.not_mem_nil, or_false] at hd'
        rcases hd' with rfl | rfl | rfl | rfl | rfl | rfl | rfl
        · exact bnt_int0 (by decide)
        · exact bnt_bl
        · exact bnt_ofs (by decide +kernel)
        · exact ⟨.tup _ (by simp) (fun e he => by cases he), by show 0 + 3 ≤ _; omega, by simp [PyData.depth, PyData.depthAll]⟩
        · exact ⟨.lst _ (by simp) (fun e he => by cases he), by show 0 + 3 ≤ _; omega, by simp [PyData.depth, PyData.depthAll]⟩
        · exact bnt_dic
        · refine ⟨.tup _ (by simp; omega) (fun e he => ?_), ?_, by simp [PyData.depth, PyData.depthAll]⟩
          · simp only [List.mem_cons, List.not_mem_nil, or_false] at he
            rcases he with rfl | rfl
            · exact (bnt_ofs (d := .none) (by decide +kernel)).1
            · exact (bnt_int0 (d := .none) (by decide)).1
          · have : wt (.tuple [.str "undo", .int 1]) ≤ 6000 := by decide +kernel
            omega)
end
end Und
set_option exponentiation.threshold 4000
namespace Und
open PySem PySem.Spec PyProof.Rows L2 LamX
local macro_rules | `(tactic| walk_at "side") => `(tactic| first | decide | omega | exact ⟨by omega, by omega⟩ | (show (0 : Int) < _; omega) | (exact Or.inl ⟨by omega, by omega⟩) | (exact Or.inr ⟨by omega, by omega⟩) | (exact sz (by simp)) | (exact szl (by simp)))
local macro_rules | `(tactic| walk_at "u") => `(tactic| first
  | with_reducible refine c_seq ?_ | with_reducible refine c_next ?_ | with_reducible refine c_yes ?_ | with_reducible refine c_asg ?_ | with_reducible refine c_asg2 ?_ | with_reducible refine c_par ?_ | with_reducible refine c_two ?_ | with_reducible refine c_g ?_ | with_reducible refine c_gsub ?_ | with_reducible refine c_gcons ?_ | with_reducible refine c_gnil ?_ | with_reducible refine c_ret ?_ | with_reducible refine c_drop ?_
  | ((with_reducible refine c_var (v := ?v) ?h ?_); (case h => rfl)) | with_reducible refine c_c ?_ | with_reducible refine c_op ?_ | with_reducible refine c_un ?_ | with_reducible refine c_I0 ?_
  | ((with_reducible refine c_I ?h ?_); (case h => walk_at "side"))
  | ((with_reducible refine c_eq ?h ?_); (case h => rfl)) | ((with_reducible refine c_neq ?h ?_); (case h => rfl)) | with_reducible refine c_test ?_ | with_reducible refine c_B ?_ | with_reducible refine c_bl ?_ | with_reducible refine c_int ?_ | with_reducible refine c_ifs ?_ | with_reducible refine c_ife ?_
  | with_reducible refine c_andV ?_ | with_reducible refine c_orV ?_ | with_reducible refine c_notV ?_ | with_reducible refine c_and ?_ | with_reducible refine c_or ?_ | with_reducible refine c_not ?_
  | with_reducible refine c_call ?_ | with_reducible refine c_cb ?_ | with_reducible refine c_nil ?_ | with_reducible refine c_cons ?_
  | with_reducible refine c_tup ?_ | with_reducible refine c_lst ?_ | with_reducible refine c_sl ?_ | with_reducible refine c_nop ?_ | with_reducible refine c_part ?_ | with_reducible refine c_fld ?_
  | with_reducible refine c_for ?_ | with_reducible refine c_ilist ?_ | with_reducible refine c_itup ?_ | with_reducible refine c_irng1 ?_ | with_reducible refine c_lc ?_
  | with_reducible refine c_m1 ?_ | with_reducible refine c_isS ?_ | with_reducible refine c_chain ?_ | with_reducible refine c_str ?_ | with_reducible refine c_make ?_ | with_reducible refine c_meth ?_ | with_reducible refine c_prop ?_ | with_reducible refine c_sfld ?_ | with_reducible refine c_ienumT ?_ | with_reducible refine iteT ?_ | with_reducible refine iteF ?_ | with_reducible refine iteNT ?_ | with_reducible refine iteNF ?_
  | ((with_reducible refine iteDT ?h ?_); (case h => first | rfl | omega)) | ((with_reducible refine iteDF ?h ?_); (case h => first | omega | (intro z; cases z; done))) | ((with_reducible refine iteNDT ?h ?_); (case h => first | rfl | omega)) | ((with_reducible refine iteNDF ?h ?_); (case h => first | omega | (intro z; cases z; done))))
local macro_rules | `(tactic| walk_at "go") => `(tactic| repeat (walk_at "u"))
section
variable {P : Program} {w : World} {K : PySem.W.Frag} {mg : Str → Option Value} {base : Heap}
theorem take_to (xs : List V) (k : Nat) : cutV xs none (some (k : Int)) = xs.take k := by
  by_cases h : k ≤ xs.length
  · exact cut_to xs k h
  · unfold cutV
    rw [HT.sIx_none, HT.sIx_nat, List.drop_zero, Nat.sub_zero, Nat.min_eq_right (by omega), List.take_of_length_le (Nat.le_refl _), List.take_of_length_le (by omega)]
theorem cut_mid (xs : List V) (k : Nat) (h : k < xs.length) : cutV xs (some (k : Int)) (some ((k : Int) + 1)) = (xs.drop k).take 1 := by
  unfold cutV
  rw [show (k : Int) + 1 = ((k + 1 : Nat) : Int) from by omega, HT.sIx_nat, HT.sIx_nat, Nat.min_eq_left (by omega), Nat.min_eq_left (by omega), show k + 1 - k = 1 from by omega]
theorem cut_next (xs : List V) (k : Nat) (h : k < xs.length) : cutV xs (some ((k : Int) + 1)) none = xs.drop (k + 1) := by
  rw [show (k : Int) + 1 = ((k + 1 : Nat) : Int) from by omega]
  exact cut_from xs (k + 1) (by omega)
theorem DxAll.take {H : Hp} : ∀ {xs : List V} {ds : List PyData} (k : Nat), DxAll K H xs ds → DxAll K H (xs.take k) (ds.take k)
  | _, _, 0, _ => .nil
  | _, _, _ + 1, .nil => .nil
  | _, _, k + 1, .cons h t => .cons h (DxAll.take k t)
theorem DxAll.drop {H : Hp} : ∀ {xs : List V} {ds : List PyData} (k : Nat), DxAll K H xs ds → DxAll K H (xs.drop k) (ds.drop k)
  | _, _, 0, h => h
  | _, _, _ + 1, .nil => .nil
  | _, _, k + 1, .cons h t => DxAll.drop k t
theorem depth_mem : ∀ {ds : List PyData} {d : PyData}, d ∈ ds → d.depth ≤ PyData.depthAll ds
  | e :: es, d, h => by
    unfold PyData.depthAll
    rcases List.mem_cons.mp h with rfl | h
    · exact Nat.le_max_left _ _
    · exact Nat.le_trans (depth_mem h) (Nat.le_max_right _ _)
theorem wtA_cut (ds : List PyData) (k : Nat) : wtA (ds.take k) + wtA (ds.drop k) = wtA ds := by
  rw [← wtA_app, List.take_append_drop]
theorem wtA_tail : ∀ ds : List PyData, wtA ds.tail ≤ wtA ds
  | [] => Nat.le_refl _
  | d :: ds => by show wtA ds ≤ wt d + 2 + wtA ds; omega
/-- other elements in place of those of a tuple -/
theorem bnt_tup {n : Nat} {ds es : List PyData} (hl : Lv n (.tuple ds)) (l : es.length ≤ ds.length + 1) (h : ∀ e ∈ es, Lv (n + 1) e ∧ e.depth ≤ PyData.depthAll ds + 1) (w : wtA es ≤ 2 * wtA ds + 6000) : Bnt n (.tuple ds) (.tuple es) := by
  have hds : ds.length ≤ 20 + n := by
    cases hl with
    | tup _ a _ => exact a
  refine ⟨.tup _ (by omega) fun e he => (h e he).1, ?_, ?_⟩
  · show wtA es + 3 ≤ 2 * (wtA ds + 3) + 6000
    omega
  · have := depth_all fun e he => (h e he).2
    simp only [PyData.depth]
    omega
theorem bnt_lst {n : Nat} {ds : List PyData} (hl : Lv n (.tuple ds)) : Bnt n (.tuple ds) (.list ds) := by
  cases hl with
  | tup _ a b =>
    refine ⟨.lst _ (by omega) fun e he => (b e he).up, ?_, ?_⟩
    · show wtA ds + 3 ≤ 2 * (wtA ds + 3) + 6000
      omega
    · simp only [PyData.depth]
      omega
def spBent (K : PySem.W.Frag) (k : Nat) : Sp := fun vs H Q _ => ∃ (p : Addr) (v : V) (d : PyData) (n : Nat), vs = [.ref p, v] ∧ Pool H p ∧ Dx K (hid p H) v d ∧ Lv n d ∧ n ≤ 5 ∧ wt d ≤ 30000 ∧ d.depth < k ∧
  ∀ v' d' H', Stp p H H' → Dx K (hid p H') v' d' → Bnt n d d' → Q v' H'
theorem ok_bent' (T : TX K mg) {j k : Nat} (hj : 2 ≤ j) (G_law_bent : FnOk P w K mg base CX0 j T.f_law_bent T.fd_law_bent pBent (spBent K k)) : FnOk P w K mg base CX0 (j + 1) T.f_law_bent T.fd_law_bent pBent (spBent K (k + 1)) := by
  have G_law_draw := (ok_draw (P := P) (w := w) (K := K) (base := base) T.d_law_draw T.divmod).mono (k := j) (by omega)
  have G_law_part := (ok_part (P := P) (w := w) (base := base) T).mono (k := j) hj
  refine T.d_law_bent.F.ok scBent (fun vs H Q E h => ?_) (fun cdv A outer s H vs Q E hr h => ?_)
  · obtain ⟨p, v, d, n, rfl, _⟩ := h
    rfl
  · obtain ⟨p, v, d, n, rfl, pool, hv, hlv, hn, hw, hd, q⟩ := h
    refine ⟨_, pss_cons (ps_if (PW.pt (pw_or (pt_not (pt_val (pe_callB (callIsi (K := K)) (by rfl) T.isinstance (by decide +kernel) (pa_cons (pv 1) (pa_cons (pe_bltn (v := .ty "tuple") (by rfl) T.tuple (by decide +kernel) rfl) pa_nil))))) (pw_or1 (pt_cmpR (opEqE (K := K) hr.units) (pv 1) (pe_tup (pa_nil)) (nomark _))))) (pss_one (ps_ret (pcall T.d_law_part G_law_part hr (by rfl) pass0 (pa_cons (pv 0) (pa_cons (pv 1) pa_nil))))) (pss_nil))
      (pss_cons (ps_par (i := 2) (j := 3) (by rfl) scBent.nd rfl rfl (by decide) rfl rfl (pa_cons (pcall T.d_law_draw G_law_draw hr (by rfl) pass0 (pa_cons (pv 0) (pa_cons (pe_callB (callLn (K := K)) (by rfl) T.len (by decide +kernel) (pa_cons (pv 1) pa_nil)) pa_nil))) (pa_cons (pcall T.d_law_draw G_law_draw hr (by rfl) pass0 (pa_cons (pv 0) (pa_cons (pe_int) pa_nil))) pa_nil)) (by rfl))
      (pss_cons (ps_if (pt_cmpR op_eq (pv 3) (pe_int) (nomark _)) (pss_one (ps_ret (pe_callTy (callLstOfB (K := K)) (by rfl) T.list (by decide +kernel) (pa_cons (pv 1) pa_nil)))) (pss_nil))
      (pss_cons (ps_if (pt_cmpR op_eq (pv 3) (pe_int) (nomark _)) (pss_one (ps_ret (pe_op (opCatT (K := K)) (pe_slice (slT (K := K)) (pv 1) po_none (po_some (pv 2))) (pe_slice (slT (K := K)) (pv 1) (po_some (pe_op op_add (pv 2) (pe_int))) po_none)))) (pss_nil))
      (pss_cons (ps_if (pt_cmpR op_eq (pv 3) (pe_int) (nomark _)) (pss_one (ps_ret (pe_op (opCatT (K := K)) (pe_op (opCatT (K := K)) (pe_slice (slT (K := K)) (pv 1) po_none (po_some (pv 2))) (pe_slice (slT (K := K)) (pv 1) (po_some (pv 2)) (po_some (pe_op op_add (pv 2) (pe_int))))) (pe_slice (slT (K := K)) (pv 1) (po_some (pv 2)) po_none)))) (pss_nil))
      (pss_one (ps_ret (pe_op (opCatT (K := K)) (pe_op (opCatT (K := K)) (pe_slice (slT (K := K)) (pv 1) po_none (po_some (pv 2))) (pe_tup (pa_cons (pcall T.d_law_bent G_law_bent hr (by rfl) pass0 (pa_cons (pv 0) (pa_cons (pe_ix (ixT (K := K)) (pv 1) (pv 2) (fun _ _ => rfl)) pa_nil))) pa_nil))) (pe_slice (slT (K := K)) (pv 1) (po_some (pe_op op_add (pv 2) (pe_int))) po_none)))))))), ?_⟩
    walk_at "go"
    obtain ⟨pa, pb, pc, hpn, _⟩ := id pool
    by_cases ht : ∃ ds, d = .tuple ds
    · obtain ⟨ds, rfl⟩ := ht
      obtain ⟨a, xs, rfl, hT, hA⟩ := dx_tup hv
      have hT0 := same_seqT (hid_same p H) hT
      have hlen := hA.len
      refine c_isi (r := true) (ty_tup hT0) (by decide +kernel) ?_
      walk_at "go"
      refine c_newT (by simp) fun t0 H1 _ s1 e1 => ?_
      have hT1 := same_seqT s1 hT0
      refine ⟨a, t0, xs, rfl, rfl, hT1, .inl (.inl e1), ?_⟩
      have st1 : Stp p H H1 := .of pool s1
      by_cases h0 : xs.length = 0
      · rw [decide_eq_true h0]
        walk_at "go"
        exact ⟨p, .ref a, .tuple ds, n, rfl, st1.q, hv.mono (hid_mono s1), hlv, hn, hw, fun v' d' H' st' hv' hb => q v' d' H' (st1.trans st') hv' hb⟩
      · rw [decide_eq_false h0]
        walk_at "go"
        refine c_lnT hT1 ?_
        walk_at "go"
        have l20 : ds.length ≤ 20 + n := by
          cases hlv with
          | tup _ z _ => exact z
        refine c_draw (m := (xs.length : Int)) st1.q (by omega) (by omega) fun r H2 r0 r1 st2 => ?_
        obtain ⟨i, rfl⟩ : ∃ i : Nat, r = (i : Int) := ⟨r.toNat, by omega⟩
        have hi : i < xs.length := by omega
        walk_at "go"
        have st02 := st1.trans st2
        refine c_draw st02.q (by decide) (by decide) fun wy H3 w0 w1 st3 => ?_
        have st03 := st02.trans st3
        have hA3 := DxAll.keep (keepX_same st03.s) _ _ hA
        have hT3p := same_seqT st03.s hT
        have hT3 := same_seqT (hid_same p H3) hT3p
        have q3 := st03.q
        have hall : ∀ e ∈ ds, Lv (n + 1) e ∧ e.depth ≤ PyData.depthAll ds + 1 := fun e he => by
          cases hlv with
          | tup _ _ z => exact ⟨(z e he).up, by have := depth_mem he; omega⟩
        clear hT0 hT1 e1 s1 st1 st2 st02 st3 hv hA hT
        walk_at "go"
        by_cases y0 : wy = 0
        · subst y0
          walk_at "go"
          refine c_lstOfB hT3 fun l H4 n4 b4 s4 e4 => ?_
          have pl := q3.ne n4
          exact q _ _ H4 (st03.trans (.of q3 s4)) (.lst ((hid_ne pl.symm).trans e4) b4 (DxAll.keep (keepX_same (hid_mono s4)) _ _ hA3)) (bnt_lst hlv)
        rw [decide_eq_false (fun z => y0 (V.int.inj z))]
        walk_at "go"
        by_cases y1 : wy = 1
        · subst y1
          walk_at "go"
          refine c_slT hT3 fun t1 H4 s4 f1 => ?_
          rw [take_to] at f1
          walk_at "go"
          refine c_slT (same_seqT s4 hT3) fun t2 H5 s5 f2 => ?_
          rw [cut_next _ _ hi] at f2
          refine c_catT (same_seqT s5 f1) f2 (by rw [List.length_take, List.length_drop]; omega) fun t3 H6 s6 f3 => ?_
          have s46 := s4.trans (s5.trans s6)
          have st6 := st03.trans (.of q3 s46)
          obtain ⟨ya, yb, yc, ey, _⟩ := id st6.q
          have hA6 := DxAll.keep (keepX_same (hid_mono s46)) _ _ hA3
          refine q _ _ H6 st6 (.tup (sqT_hid ey f3) (DxAll.app (DxAll.take i hA6) (DxAll.drop (i + 1) hA6))) (bnt_tup hlv (by rw [List.length_append, List.length_take, List.length_drop]; omega) (fun e he => ?_) ?_)
          · rcases List.mem_append.mp he with he | he
            · exact hall e (List.mem_of_mem_take he)
            · exact hall e (List.mem_of_mem_drop he)
          · rw [wtA_app]
            have h1 := wtA_cut ds i
            have h2 := wtA_tail (ds.drop i)
            rw [List.tail_drop] at h2
            omega
        rw [decide_eq_false (fun z => y1 (V.int.inj z))]
        walk_at "go"
        by_cases y2 : wy = 2
        · subst y2
          walk_at "go"
          refine c_slT hT3 fun t1 H4 s4 f1 => ?_
          rw [take_to] at f1
          walk_at "go"
          refine c_slT (same_seqT s4 hT3) fun t2 H5 s5 f2 => ?_
          rw [cut_mid _ _ hi] at f2
          refine c_catT (same_seqT s5 f1) f2 (by rw [List.length_take, List.length_take, List.length_drop]; omega) fun t3 H6 s6 f3 => ?_
          walk_at "go"
          refine c_slT (same_seqT (s4.trans (s5.trans s6)) hT3) fun t4 H7 s7 f4 => ?_
          rw [cut_from _ _ (by omega)] at f4
          refine c_catT (same_seqT s7 f3) f4 (by rw [List.length_append, List.length_take, List.length_take, List.length_drop]; omega) fun t5 H8 s8 f5 => ?_
          have s48 := s4.trans (s5.trans (s6.trans (s7.trans s8)))
          have st8 := st03.trans (.of q3 s48)
          obtain ⟨ya, yb, yc, ey, _⟩ := id st8.q
          have hA8 := DxAll.keep (keepX_same (hid_mono s48)) _ _ hA3
          refine q _ _ H8 st8 (.tup (sqT_hid ey f5) (DxAll.app (DxAll.app (DxAll.take i hA8) (DxAll.take 1 (DxAll.drop i hA8))) (DxAll.drop i hA8))) (bnt_tup hlv ?_ (fun e he => ?_) ?_)
          · simp only [List.length_append, List.length_take, List.length_drop]
            omega
          · rcases List.mem_append.mp he with he | he
            · rcases List.mem_append.mp he with he | he
              · exact hall e (List.mem_of_mem_take he)
              · exact hall e (List.mem_of_mem_drop (List.mem_of_mem_take he))
            · exact hall e (List.mem_of_mem_drop he)
          · rw [wtA_app, wtA_app]
            have h1 := wtA_cut ds i
            have h2 := wtA_cut (ds.drop i) 1
            omega
        rw [decide_eq_false (fun z => y2 (V.int.inj z))]
        walk_at "go"
        refine c_slT hT3 fun t1 H4 s4 f1 => ?_
        rw [take_to] at f1
        walk_at "go"
        have hT4 := same_seqT s4 hT3
        have st04 := st03.trans (.of q3 s4)
        refine c_ixT hT4 i rfl (List.getElem?_eq_getElem hi) ?_
        have hi2 : i < ds.length := by omega
        have hA4 := DxAll.keep (keepX_same (hid_mono s4)) _ _ hA3
        obtain ⟨e, he, hve⟩ : ∃ e, ds[i]? = some e ∧ Dx K (hid p H4) xs[i] e := hA4.at (List.getElem?_eq_getElem hi)
        have hmem := List.mem_of_getElem? he
        have hwe : wtA ds = wtA (ds.take i) + (wt e + 2 + wtA (ds.drop (i + 1))) := by
          rw [← wtA_cut ds i, List.drop_eq_getElem_cons hi2]
          have : ds[i] = e := by
            rw [List.getElem?_eq_getElem hi2] at he
            exact Option.some.inj he
          rw [this]
          rfl
        have hwd : wtA ds + 3 ≤ 30000 := hw
        have hde : e.depth < k := by
          have h1 := depth_mem hmem
          have h2 : PyData.depthAll ds + 1 < k + 1 := by
            have := hd
            simp only [PyData.depth] at this
            omega
          omega
        have hle : Lv n e := by
          cases hlv with
          | tup _ _ z => exact z e hmem
        refine ⟨p, xs[i], e, n, rfl, st04.q, hve, hle, hn, by omega, hde, fun v' d' H5 st5 hv' hb => ?_⟩
        have st05 := st04.trans st5
        walk_at "go"
        refine c_newT (by simp) fun t2 H6 n6 s6 e6 => ?_
        have p6 := st05.q.ne n6
        obtain ⟨ya, yb, yc, ey, _⟩ := id st04.q
        have f1' := same_seqT (hid_same p H5) (same_seqT st5.s (sqT_hid ey f1))
        refine c_catT (same_seqT s6 f1') (.inl (.inl e6)) (by rw [List.length_take]; simp; omega) fun t3 H7 s7 f3 => ?_
        walk_at "go"
        have hT5 := same_seqT (hid_same p H5) (same_seqT st5.s (sqT_hid ey hT4))
        refine c_slT (same_seqT (s6.trans s7) hT5) fun t4 H8 s8 f4 => ?_
        rw [cut_next _ _ hi] at f4
        refine c_catT (same_seqT s8 f3) f4 (by rw [List.length_append, List.length_take, List.length_drop]; simp; omega) fun t5 H9 s9 f5 => ?_
        have s69 := s6.trans (s7.trans (s8.trans s9))
        have st9 := st05.trans (.of st05.q s69)
        obtain ⟨za, zb, zc, ez, _⟩ := id st9.q
        have hA9 := DxAll.keep (keepX_same ((st5.s).trans (hid_mono s69))) _ _ hA4
        have hv9 := hv'.mono (hid_mono s69)
        obtain ⟨b1, b2, b3⟩ := hb
        refine q _ _ H9 st9 (.tup (sqT_hid ez f5) (DxAll.app (DxAll.app (DxAll.take i hA9) (.cons hv9 .nil)) (DxAll.drop (i + 1) hA9))) (bnt_tup hlv ?_ (fun x hx => ?_) ?_)
        · simp only [List.length_append, List.length_take, List.length_drop, List.length_cons, List.length_nil]
          omega
        · rcases List.mem_append.mp hx with hx | hx
          · rcases List.mem_append.mp hx with hx | hx
            · exact hall x (List.mem_of_mem_take hx)
            · rw [List.mem_singleton.mp hx]
              exact ⟨b1, by have := depth_mem hmem; omega⟩
          · exact hall x (List.mem_of_mem_drop hx)
        · rw [wtA_app, wtA_app]
          show wtA (ds.take i) + (wt d' + 2 + 0) + wtA (ds.drop (i + 1)) ≤ _
          omega
    · obtain ⟨t, ty, kt⟩ := no_tup hv (fun z e => ht ⟨z, e⟩)
      refine c_isiN (tyx_mono (hid_same p H) ty) kt ?_
      walk_at "go"
      exact ⟨p, v, d, n, rfl, pool, hv, hlv, hn, hw, q⟩
theorem ok_bent (T : TX K mg) : ∀ k : Nat, FnOk P w K mg base CX0 (2 + k) T.f_law_bent T.fd_law_bent pBent (spBent K k)
  | 0 => ⟨fun _ _ _ _ h => by
      obtain ⟨_, _, _, _, rfl, _⟩ := h
      rfl, fun _ _ _ _ _ _ _ _ _ _ _ _ _ h => by
      obtain ⟨_, _, _, _, _, _, _, _, _, _, h, _⟩ := h
      exact absurd h (Nat.not_lt_zero _)⟩
  | k + 1 => ok_bent' T (Nat.le_add_right 2 k) (ok_bent T k)
end
end Und
namespace Und
open PySem PySem.Spec PyProof.Rows L2
local macro_rules | `(tactic| walk_at "side") => `(tactic| first | decide | omega | exact ⟨by omega, by omega⟩ | (show (0 : Int) < _; omega) | (exact Or.inl ⟨by omega, by omega⟩) | (exact Or.inr ⟨by omega, by omega⟩) | (exact sz (by simp)) | (exact szl (by simp)))
local macro_rules | `(tactic| walk_at "u") => `(tactic| first
  | with_reducible refine c_seq ?_ | with_reducible refine c_next ?_ | with_reducible refine c_yes ?_ | with_reducible refine c_asg ?_ | with_reducible refine c_asg2 ?_ | with_reducible refine c_par ?_ | with_reducible refine c_two ?_ | with_reducible refine c_g ?_ | with_reducible refine c_gsub ?_ | with_reducible refine c_gcons ?_ | with_reducible refine c_gnil ?_ | with_reducible refine c_ret ?_ | with_reducible refine c_drop ?_
  | ((with_reducible refine c_var (v := ?v) ?h ?_); (case h => rfl)) | with_reducible refine c_c ?_ | with_reducible refine c_op ?_ | with_reducible refine c_un ?_ | with_reducible refine c_I0 ?_
  | ((with_reducible refine c_I ?h ?_); (case h => walk_at "side"))
  | ((with_reducible refine c_eq ?h ?_); (case h => rfl)) | ((with_reducible refine c_neq ?h ?_); (case h => rfl)) | with_reducible refine c_test ?_ | with_reducible refine c_B ?_ | with_reducible refine c_bl ?_ | with_reducible refine c_int ?_ | with_reducible refine c_ifs ?_ | with_reducible refine c_ife ?_
  | with_reducible refine c_andV ?_ | with_reducible refine c_orV ?_ | with_reducible refine c_notV ?_ | with_reducible refine c_and ?_ | with_reducible refine c_or ?_ | with_reducible refine c_not ?_
  | with_reducible refine c_call ?_ | with_reducible refine c_cb ?_ | with_reducible refine c_nil ?_ | with_reducible refine c_cons ?_
  | with_reducible refine c_tup ?_ | with_reducible refine c_lst ?_ | with_reducible refine c_sl ?_ | with_reducible refine c_nop ?_ | with_reducible refine c_part ?_ | with_reducible refine c_fld ?_
  | with_reducible refine c_for ?_ | with_reducible refine c_ilist ?_ | with_reducible refine c_itup ?_ | with_reducible refine c_irng1 ?_ | with_reducible refine c_lc ?_
  | with_reducible refine c_m1 ?_ | with_reducible refine c_isS ?_ | with_reducible refine c_chain ?_ | with_reducible refine c_str ?_ | with_reducible refine c_make ?_ | with_reducible refine c_meth ?_ | with_reducible refine c_prop ?_ | with_reducible refine c_sfld ?_ | with_reducible refine c_ienumT ?_ | with_reducible refine iteT ?_ | with_reducible refine iteF ?_ | with_reducible refine iteNT ?_ | with_reducible refine iteNF ?_
  | ((with_reducible refine iteDT ?h ?_); (case h => first | rfl | omega)) | ((with_reducible refine iteDF ?h ?_); (case h => first | omega | (intro z; cases z; done))) | ((with_reducible refine iteNDT ?h ?_); (case h => first | rfl | omega)) | ((with_reducible refine iteNDF ?h ?_); (case h => first | omega | (intro z; cases z; done))))
local macro_rules | `(tactic| walk_at "go") => `(tactic| repeat (walk_at "u"))
local macro_rules | `(tactic| walk_at "u") => `(tactic| first | with_reducible refine c_smeth ?_ | with_reducible refine c_makeR ?_ | with_reducible refine c_star ?_)
/-! ### what stays when an instance is changed -/
section
variable {K : PySem.W.Frag} {H : Hp} {p a C dx : Addr} {fs : List (Str × V)}
theorem sqT_hidI {xs : List V} (e : H p = some (.ins C dx fs)) (h : SqT K H a xs) : SqT K (hid p H) a xs := by
  have ne : ∀ {x : HO}, H a = some x → (∀ c d z, x ≠ .ins c d z) → a ≠ p := fun e1 k h => by
    rw [h, e] at e1
    exact k _ _ _ (Option.some.inj e1).symm
  rcases h with (h | ⟨o, h⟩) | h
  · exact .inl (.inl ((hid_ne (ne h fun c d z k => by cases k)).trans h))
  · exact .inl (.inr ⟨o, (hid_ne (ne h fun c d z k => by cases k)).trans h⟩)
  · exact .inr h
theorem MvAt.hidI {v : V} {m : Mv} (e : H p = some (.ins C dx fs)) (h : MvAt K H v m) : MvAt K (Und.hid p H) v m := by
  obtain ⟨a, x, e1, h1, h2⟩ := h
  exact ⟨a, x, e1, sqT_hidI e h1, h2⟩
theorem CmdAt.hidI {v : V} {c : Cmd} (e : H p = some (.ins C dx fs)) (h : CmdAt K H v c) : CmdAt K (Und.hid p H) v c := by
  cases c with
  | dd z =>
    obtain ⟨a, e1, h1, h2⟩ := h
    exact ⟨a, e1, sqT_hidI e h1, h2⟩
  | mv m => exact MvAt.hidI e h
  | rep n ms =>
    obtain ⟨a, b, vs, e1, h1, h2, h3, r⟩ := h
    exact ⟨a, b, vs, e1, sqT_hidI e h1, sqT_hidI e h2, h3.imp fun _ _ => MvAt.hidI e, r⟩
end
section
variable {P : Program} {w : World} {K : PySem.W.Frag} {mg : Str → Option Value} {base : Heap}
def spChI (C : Addr) : Sp := fun vs H Q _ => ∃ a dx fs, vs = [.ref a] ∧ H a = some (.ins C dx fs) ∧ Q .non H
theorem ok_check_program (T : TX K mg) : FnOk P w K mg base CX0 1 T.f_check_program T.fd_check_program pChProg (spChI T.C_Program) := by
  refine T.d_check_program.F.ok scChProg (fun vs H Q E h => ?_) (fun cdv A outer s H vs Q E hr h => ?_)
  · obtain ⟨a, dx, fs, rfl, _⟩ := h
    rfl
  · obtain ⟨a, dx, fs, rfl, e, q⟩ := h
    refine ⟨_, pss_one (ps_if (pt_not (pt_val (pe_callB (callIsi (K := K)) (by rfl) T.isinstance (by decide +kernel) (pa_cons (pv 0) (pa_cons (pe_glob (v := .ref T.C_Program) rfl T.m_Program rfl) pa_nil))))) (pss_one (ps_never)) (pss_nil)), ?_⟩
    walk_at "go"
    refine c_isiC T.is_Program e ?_
    walk_at "go"
    exact q
theorem ok_check_history (T : TX K mg) : FnOk P w K mg base CX0 1 T.f_check_history T.fd_check_history pChHist (spChI T.C_History) := by
  refine T.d_check_history.F.ok scChHist (fun vs H Q E h => ?_) (fun cdv A outer s H vs Q E hr h => ?_)
  · obtain ⟨a, dx, fs, rfl, _⟩ := h
    rfl
  · obtain ⟨a, dx, fs, rfl, e, q⟩ := h
    refine ⟨_, pss_one (ps_if (pt_not (pt_val (pe_callB (callIsi (K := K)) (by rfl) T.isinstance (by decide +kernel) (pa_cons (pv 0) (pa_cons (pe_glob (v := .ref T.C_History) rfl T.m_History rfl) pa_nil))))) (pss_one (ps_never)) (pss_nil)), ?_⟩
    walk_at "go"
    refine c_isiC T.is_History e ?_
    walk_at "go"
    exact q
theorem CmdAt.tup {H : Hp} {v : V} {c : Cmd} (h : CmdAt K H v c) : ∃ a xs, v = .ref a ∧ SqT K H a xs := by
  cases c with
  | dd z =>
    obtain ⟨a, e, h1, _⟩ := h
    exact ⟨a, _, e, h1⟩
  | mv m =>
    obtain ⟨a, x, e, h1, _⟩ := h
    exact ⟨a, _, e, h1⟩
  | rep n ms =>
    obtain ⟨a, b, us, e, h1, _⟩ := h
    exact ⟨a, _, e, h1⟩
/-- what Program's __init__ promises: of commands, and of programs that are joined behind them -/
def ProgsAt (K : PySem.W.Frag) (C : Addr) (H : Hp) : V → List Cmd → Prop := fun v cs => ∃ a, v = .ref a ∧ ProgAt K C H a cs
theorem ProgsAt.mono {C : Addr} {H H' : Hp} {v : V} {cs : List Cmd} (s : Same H H') (h : ProgsAt K C H v cs) : ProgsAt K C H' v cs := by
  obtain ⟨a, e, h⟩ := h
  exact ⟨a, e, h.mono s⟩
def spPI (K : PySem.W.Frag) (C : Addr) : Sp := fun vs H Q _ => ∃ (x dx j t : Addr) (us js : List V) (cs : List Cmd) (css : List (List Cmd)), vs = [.ref x, .ref j, .ref t] ∧ H x = some (.ins C dx []) ∧
  SqT K H t us ∧ All2 (CmdAt K H) us cs ∧ SqT K H j js ∧ All2 (ProgsAt K C H) js css ∧ (cs ++ css.flatten).length ≤ 1000 ∧
  ∀ H' t2 us2, (∀ b o, b ≠ x → H b = some o → H' b = some o) → H' x = some (.ins C dx (pflds t2)) → SqT K H' t2 us2 → All2 (CmdAt K H') us2 (cs ++ css.flatten) → Q .non H'
theorem flat_take {α : Type} (css : List (List α)) {i : Nat} {c : List α} (e : css[i]? = some c) : (css.take (i + 1)).flatten = (css.take i).flatten ++ c := by
  rw [List.take_succ, e]
  simp
theorem flat_le {α : Type} (css : List (List α)) (i : Nat) : (css.take i).flatten.length ≤ css.flatten.length := by
  have h := congrArg (fun z => z.flatten.length) (List.take_append_drop i css)
  simp only [List.flatten_append, List.length_append] at h
  omega
theorem ok_pinit0 (T : TX K mg) : FnR P w K mg base CX0 6 T.f_Program_init (spStarK 1 (V.ref T.e0_Program_init) (spPI K T.C_Program)) ∧ FnRK P w K mg base CX0 6 T.f_Program_init "joined" (spStarKW 1 (spPI K T.C_Program)) := by
  have G_Program_is_command := ok_is_command (P := P) (w := w) (base := base) T
  have G_check_program := ok_check_program (P := P) (w := w) (base := base) T
  refine T.F_Program_init.ok scPInit fun cdv A outer s H vs Q E hr h => ?_
  obtain ⟨x, dx, j, t, us, js, cs, css, rfl, hx, hU, hA, hJ, hB, hl, q⟩ := h
  refine ⟨_, pss_cons (ps_for PassesOwn.never rfl (pi_enumT (by rfl) T.enumerate (pa_cons (pv 2) pa_nil)) (pgTup (K := K) (n := 2) (by rfl) (pgs_cons (pg_name (i := 3) scPInit.nd rfl (.inl rfl)) (pgs_cons (pg_name (i := 4) scPInit.nd rfl (.inl rfl)) pgs_nil)))
        (pss_one (ps_if (pt_not (pt_val (pe_smeth (pe_glob (v := .ref T.C_Program) rfl T.m_Program rfl) T.cr_Program T.cs_Program_is_command (G_Program_is_command.raw T.b_Program_is_command .nil) (hr.mono (by decide)) pass0 (pa_cons (pv 4) pa_nil)))) (pss_one (ps_never)) (pss_nil))))
      (pss_cons (ps_for PassesOwn.never rfl (piTup (K := K) (pv 1)) (pg_name (i := 5) scPInit.nd rfl (.inl rfl))
        (pss_cons (ps_expr (pcall T.d_check_program G_check_program (hr.mono (by decide)) (by rfl) pass0 (pa_cons (pv 5) pa_nil)))
      (pss_one (ps_set (i := 2) scPInit.nd rfl (.inl rfl) (pe_op (opCatT (K := K)) (pv 2) (peFld (K := K) (pv 5) rfl))))))
      (pss_one (ps_fld (pv 0) (pv 2) rfl))), ?_⟩
  have hlc := hA.1
  have hz : cs.length ≤ 1000 := by
    have := List.length_append (as := cs) (bs := css.flatten)
    omega
  walk_at "go"
  refine ⟨t, us, rfl, hU, ?_⟩
  refine for_enumT (xs := us) (fun i σ H' => Same H H' ∧ ∃ a b, σ = [some (.ref x), some (.ref j), some (.ref t), a, b, none]) ⟨Same.refl _, _, _, rfl⟩ (fun i σ H' _ h => same_seqT h.1 hU) (fun i v y σ H' hv h nt => ?_) (fun σ H' h => ?_)
  · obtain ⟨s1, y1, y2, rfl⟩ := h
    obtain ⟨c, _, hc⟩ := hA.get hv
    refine c_gtup (.inl (.inl upd_same)) rfl ?_
    walk_at "go"
    refine ⟨rfl, ?_⟩
    walk_at "go"
    refine ⟨v, c, rfl, (hc.mono s1).mono (same_new nt), fun H2 s2 => ?_⟩
    walk_at "go"
    exact ⟨(s1.trans (same_new nt)).trans s2, _, _, rfl⟩
  · obtain ⟨s1, y1, y2, rfl⟩ := h
    walk_at "go"
    refine ⟨j, rfl, ⟨js, same_seqT s1 hJ⟩, ?_⟩
    refine for_tup (xs := js) (fun i σ H2 => Same H H2 ∧ ∃ t2 us2 y3, SqT K H2 t2 us2 ∧ All2 (CmdAt K H2) us2 (cs ++ (css.take i).flatten) ∧ σ = [some (.ref x), some (.ref j), some (.ref t2), y1, y2, y3])
      ⟨s1, t, us, none, same_seqT s1 hU, by rw [List.take_zero, List.flatten_nil, List.append_nil]; exact hA.imp fun _ _ => CmdAt.mono s1, rfl⟩ (fun i σ H2 _ h => same_seqT h.1 hJ) (fun i v σ H2 hv h => ?_) (fun σ H2 h => ?_)
    · obtain ⟨s2, t2, us2, y3, hT2, hA2, rfl⟩ := h
      obtain ⟨c, ec, a, rfl, hP⟩ := hB.get hv
      have hP := hP.mono s2
      walk_at "go"
      obtain ⟨dy, tb, vs, eb, hT3, hA3, _⟩ := id hP
      refine ⟨a, dy, _, rfl, eb, ?_⟩
      walk_at "go"
      refine ⟨a, _, dy, _, _, rfl, eb, T.cl_Program, T.n_Program_commands, pflds_get _, ?_⟩
      have e1 := hA2.1
      have e2 := hA3.1
      have ef := flat_take css ec
      have hle := flat_le css (i + 1)
      rw [ef, List.length_append] at hle
      rw [List.length_append] at e1 hl
      refine c_catT hT2 hT3 (by omega) fun t3 H3 s3 hT4 => ?_
      exact ⟨s2.trans s3, t3, _, _, hT4, by rw [ef, ← List.append_assoc]; exact (hA2.app hA3).imp fun _ _ => CmdAt.mono s3, rfl⟩
    · obtain ⟨s2, t2, us2, y3, hT2, hA2, rfl⟩ := h
      rw [List.take_of_length_le (Nat.le_of_eq hB.1.symm)] at hA2
      walk_at "go"
      refine ⟨x, T.C_Program, dx, [], rfl, s2 _ _ hx, T.cl_Program, T.n_Program_commands, by decide, ?_⟩
      have nx : ∀ b o, H2 b = some o → b ≠ x → upd H2 x (.ins T.C_Program dx (putF "commands" (.ref t2) [])) b = some o := fun b o e hb => by rw [upd_ne hb]; exact e
      have sh : Same (hid x H2) (upd H2 x (.ins T.C_Program dx (putF "commands" (.ref t2) []))) := fun b o e => by
        unfold hid at e
        by_cases h : b = x
        · rw [if_pos h] at e
          cases e
        · rw [if_neg h] at e
          exact nx b o e h
      refine q _ t2 us2 (fun b o hb e => by rw [upd_ne hb]; exact s2 _ _ e) upd_same (same_seqT sh (sqT_hidI (s2 _ _ hx) hT2)) ?_
      exact hA2.imp fun _ _ z => (CmdAt.hidI (s2 _ _ hx) z).mono sh
theorem ok_pinit (T : TX K mg) : FnR P w K mg base CX0 6 T.f_Program_init (spStarK 1 (V.ref T.e0_Program_init) (spPI K T.C_Program)) := (ok_pinit0 T).1
theorem ok_pinitK (T : TX K mg) : FnRK P w K mg base CX0 6 T.f_Program_init "joined" (spStarKW 1 (spPI K T.C_Program)) := (ok_pinit0 T).2
/-- a program is made of commands -/
theorem c_mkP {C e0 : Addr} {H : Hp} {Q : VK} {E : XK} {vs : List V} {cs : List Cmd} (t0 : ∀ H, SqT K H e0 []) (hA : All2 (CmdAt K H) vs cs) (hl : cs.length ≤ 1000) (q : ∀ r H', H r = none → Same H H' → ProgAt K C H' r cs → Q (.ref r) H') : rMkR C (spStarK 1 (V.ref e0) (spPI K C)) E vs H Q := fun x dx nx nd ne => by
  have s1 : Same H (upd (upd H dx (.own x)) x (.ins C dx [])) := fun b o e => by
    rw [upd_ne (ne_of_none e nx), upd_ne (ne_of_none e nd)]
    exact e
  have hv := hA.1
  refine ⟨[.ref x], vs, rfl, rfl, sz (by omega), fun p np => ?_⟩
  have nxp : x ≠ p := fun e => by
    rw [← e, upd_same] at np
    cases np
  have s2 := s1.trans (same_new (o := .tup vs) np)
  refine ⟨x, dx, e0, p, vs, [], cs, [], rfl, by rw [upd_ne nxp]; exact upd_same, .inl (.inl upd_same), hA.imp fun _ _ => CmdAt.mono s2, t0 _, All2.nil, by simpa using hl, fun H' t2 us2 k ex h1 h2 => ⟨rfl, ?_⟩⟩
  have s3 : Same H H' := fun b o e => k b o (ne_of_none e nx) (s2 b o e)
  exact q x H' nx s3 ⟨dx, t2, us2, ex, h1, by simpa using h2, hl⟩
/-- .. of programs that are joined -/
theorem c_mkPJ {C j : Addr} {H : Hp} {Q : VK} {E : XK} {js : List V} {css : List (List Cmd)} (hJ : SqT K H j js) (hB : All2 (ProgsAt K C H) js css) (hl : css.flatten.length ≤ 1000) (q : ∀ r H', Same H H' → ProgAt K C H' r css.flatten → Q (.ref r) H') : rMkRK C (spStarKW 1 (spPI K C)) E [.ref j] H Q := ⟨_, rfl, fun x dx nx nd ne => by
  have s1 : Same H (upd (upd H dx (.own x)) x (.ins C dx [])) := fun b o e => by
    rw [upd_ne (ne_of_none e nx), upd_ne (ne_of_none e nd)]
    exact e
  refine ⟨[.ref x], .ref j, rfl, rfl, fun p np => ?_⟩
  have nxp : x ≠ p := fun e => by
    rw [← e, upd_same] at np
    cases np
  have s2 := s1.trans (same_new (o := .tup []) np)
  refine ⟨x, dx, j, p, [], js, [], css, rfl, by rw [upd_ne nxp]; exact upd_same, .inl (.inl upd_same), All2.nil, same_seqT s2 hJ, hB.imp fun _ _ => ProgsAt.mono s2, by simpa using hl, fun H' t2 us2 k ex h1 h2 => ⟨rfl, ?_⟩⟩
  have s3 : Same H H' := fun b o e => k b o (ne_of_none e nx) (s2 b o e)
  exact q x H' s3 ⟨dx, t2, us2, ex, h1, by simpa using h2, hl⟩⟩
end
end Und
set_option exponentiation.threshold 4000
namespace Und
open PySem PySem.Spec PyProof.Rows L2 LamX
local macro_rules | `(tactic| walk_at "side") => `(tactic| first | decide | omega | exact ⟨by omega, by omega⟩ | (show (0 : Int) < _; omega) | (exact Or.inl ⟨by omega, by omega⟩) | (exact Or.inr ⟨by omega, by omega⟩) | (exact sz (by simp)) | (exact szl (by simp)))
local macro_rules | `(tactic| walk_at "u") => `(tactic| first
  | with_reducible refine c_seq ?_ | with_reducible refine c_next ?_ | with_reducible refine c_yes ?_ | with_reducible refine c_asg ?_ | with_reducible refine c_asg2 ?_ | with_reducible refine c_par ?_ | with_reducible refine c_two ?_ | with_reducible refine c_g ?_ | with_reducible refine c_gsub ?_ | with_reducible refine c_gcons ?_ | with_reducible refine c_gnil ?_ | with_reducible refine c_ret ?_ | with_reducible refine c_drop ?_
  | ((with_reducible refine c_var (v := ?v) ?h ?_); (case h => rfl)) | with_reducible refine c_c ?_ | with_reducible refine c_op ?_ | with_reducible refine c_un ?_ | with_reducible refine c_I0 ?_
  | ((with_reducible refine c_I ?h ?_); (case h => walk_at "side"))
  | ((with_reducible refine c_eq ?h ?_); (case h => rfl)) | ((with_reducible refine c_neq ?h ?_); (case h => rfl)) | with_reducible refine c_test ?_ | with_reducible refine c_B ?_ | with_reducible refine c_bl ?_ | with_reducible refine c_int ?_ | with_reducible refine c_ifs ?_ | with_reducible refine c_ife ?_
  | with_reducible refine c_andV ?_ | with_reducible refine c_orV ?_ | with_reducible refine c_notV ?_ | with_reducible refine c_and ?_ | with_reducible refine c_or ?_ | with_reducible refine c_not ?_
  | with_reducible refine c_call ?_ | with_reducible refine c_cb ?_ | with_reducible refine c_nil ?_ | with_reducible refine c_cons ?_
  | with_reducible refine c_tup ?_ | with_reducible refine c_lst ?_ | with_reducible refine c_sl ?_ | with_reducible refine c_nop ?_ | with_reducible refine c_part ?_ | with_reducible refine c_fld ?_
  | with_reducible refine c_for ?_ | with_reducible refine c_ilist ?_ | with_reducible refine c_itup ?_ | with_reducible refine c_irng1 ?_ | with_reducible refine c_lc ?_
  | with_reducible refine c_m1 ?_ | with_reducible refine c_isS ?_ | with_reducible refine c_chain ?_ | with_reducible refine c_str ?_ | with_reducible refine c_make ?_ | with_reducible refine c_meth ?_ | with_reducible refine c_prop ?_ | with_reducible refine c_sfld ?_ | with_reducible refine c_ienumT ?_ | with_reducible refine iteT ?_ | with_reducible refine iteF ?_ | with_reducible refine iteNT ?_ | with_reducible refine iteNF ?_
  | ((with_reducible refine iteDT ?h ?_); (case h => first | rfl | omega)) | ((with_reducible refine iteDF ?h ?_); (case h => first | omega | (intro z; cases z; done))) | ((with_reducible refine iteNDT ?h ?_); (case h => first | rfl | omega)) | ((with_reducible refine iteNDF ?h ?_); (case h => first | omega | (intro z; cases z; done))))
local macro_rules | `(tactic| walk_at "go") => `(tactic| repeat (walk_at "u"))
local macro_rules | `(tactic| walk_at "u") => `(tactic| first | with_reducible refine c_lstB ?_ | with_reducible refine c_smeth ?_ | with_reducible refine c_smethK ?_ | with_reducible refine c_sinst ?_ | with_reducible refine c_makeR ?_ | with_reducible refine c_kcons ?_ | with_reducible refine c_knil ?_)
local macro_rules | `(tactic| walk_at "lit") => `(tactic| repeat (first | with_reducible exact lx_nil | with_reducible apply lx_cons | with_reducible exact lx_non | with_reducible exact lx_bl | with_reducible exact lx_int | with_reducible exact lx_str | with_reducible exact lx_neg | with_reducible exact lx_dic | with_reducible apply lx_tup | with_reducible apply lx_lst | with_reducible apply lx_pow | decide | exact ⟨by decide, by decide, by decide⟩))
section
variable {P : Program} {w : World} {K : PySem.W.Frag} {mg : Str → Option Value} {base : Heap}
theorem sms_few {m : Int} {cs : List Cmd} (h : Sms m cs) : ∀ c ∈ cs, FewC c := fun c hc => by
  have := h c hc
  cases c with
  | dd z => trivial
  | mv x => trivial
  | rep n ms => exact this.2.1
theorem c_reprV {v : V} {d : PyData} {H : Hp} {Q : VK} (hv : Dx K H v d) (sh : Shw d 100000) (dp : d.depth ≤ 20) (q : Q (.str d.shown) H) : crReprX K [v] H Q := by
  cases d with
  | none =>
    cases hv
    exact c_reprXE .non q
  | bool b =>
    cases hv
    exact c_reprXE (.bl b) q
  | int i =>
    cases hv
    have h := sh.1
    rw [PyData.showable] at h
    exact c_reprXE (.int i (of_decide_eq_true h)) q
  | str z =>
    cases hv
    have h := sh.2
    rw [PyData.shown] at h
    exact c_reprXE (.str z (Nat.le_trans h (by decide))) q
  | list ds =>
    have hv' := hv
    cases hv
    exact c_reprX (n := 0) hv' sh (by omega) (by decide) q
  | tuple ds =>
    have hv' := hv
    cases hv
    exact c_reprX (n := 0) hv' sh (by omega) (by decide) q
  | dict ks =>
    have hv' := hv
    cases hv
    exact c_reprX (n := 0) hv' sh (by omega) (by decide) q
theorem lx_go {te : TE} {d : PyData} {σ : L2.St} {H : Hp} {Q : VK} (h : LxE K te d) (k : ∀ v H', Same H H' → Dx K (nw H H') v d → Q v H') : te σ H Q := h σ H Q k
/-- a value of the law -/
def Vx (K : PySem.W.Frag) (H : Hp) (v : V) : Prop := ∃ d, Dx K H v d ∧ CmS d ∧ Shw d 100000 ∧ d.depth ≤ 20
theorem Vx.mono {H H' : Hp} {v : V} (s : Same H H') (h : Vx K H v) : Vx K H' v := h.imp fun _ z => ⟨z.1.mono s, z.2⟩
theorem vx_odd {H : Hp} {v : V} {d : PyData} (h : Dx K H v d) (ok : oddB d = true) : Vx K H v := by
  unfold oddB at ok
  simp only [Bool.and_eq_true, decide_eq_true_eq] at ok
  obtain ⟨⟨⟨h1, h2⟩, h3⟩, h4⟩ := ok
  exact ⟨d, h, cmS_of h1, ⟨h2, by omega⟩, by omega⟩
theorem vx_lv {n : Nat} {H : Hp} {v : V} {d : PyData} (h : Dx K H v d) (l : Lv n d) (hn : n ≤ 5) (hw : wt d ≤ 100000) (hd : d.depth ≤ 20) : Vx K H v := by
  obtain ⟨a, b⟩ := Lv.shw (by omega) l
  exact ⟨d, h, Lv.cms (by omega) l, ⟨a, by omega⟩, hd⟩
theorem lv_am {m : Option Int} (h : AmOk m) : Lv 0 (dAm m) ∧ wt (dAm m) ≤ 600 ∧ (dAm m).depth = 0 := by
  cases m with
  | none => exact ⟨.non, by decide, by decide⟩
  | some k =>
    have h1 := h.1
    have h2 := h.2
    exact ⟨.int k (by omega), Nat.le_refl _, rfl⟩
theorem lv_mv {m : Mv} (h : MvOk m) : Lv 0 (dMv m) ∧ wt (dMv m) ≤ 700 ∧ (dMv m).depth ≤ 1 := by
  obtain ⟨a, b, c⟩ := lv_am h
  have wd : ∀ b : Bool, ((wdM b).cps.toList.all (fun c => decide (c < 128)) && decide ((wdM b).length ≤ 5)) = true := by decide +kernel
  have w1 := wd m.1
  rw [Bool.and_eq_true] at w1
  have l := of_decide_eq_true w1.2
  refine ⟨.tup _ (by simp) fun e he => ?_, ?_, by simp [dMv, PyData.depth, PyData.depthAll, c]⟩
  · simp only [List.mem_cons, List.not_mem_nil, or_false] at he
    rcases he with rfl | rfl
    · exact .str _ (fun c hc => of_decide_eq_true (List.all_eq_true.mp w1.1 c hc)) (by omega)
    · exact a
  · show (10 * (wdM m.1).length + 2) + 2 + (wt (dAm m.2) + 2 + 0) + 3 ≤ 700
    omega
theorem lv_mvs : ∀ {ms : List Mv}, (∀ m ∈ ms, MvOk m) → (∀ e ∈ ms.map dMv, Lv 0 e) ∧ wtA (ms.map dMv) ≤ 702 * ms.length ∧ PyData.depthAll (ms.map dMv) ≤ 1
  | [], _ => ⟨fun e he => (by cases he), Nat.le_refl _, by simp [PyData.depthAll]⟩
  | m :: ms, h => by
    obtain ⟨a, b, c⟩ := lv_mv (h m List.mem_cons_self)
    obtain ⟨a2, b2, c2⟩ := lv_mvs fun x hx => h x (List.mem_cons_of_mem _ hx)
    refine ⟨fun e he => ?_, ?_, ?_⟩
    · rcases List.mem_cons.mp he with rfl | he
      · exact a
      · exact a2 e he
    · rw [List.map_cons, List.length_cons]
      show wt (dMv m) + 2 + wtA (ms.map dMv) ≤ _
      omega
    · rw [List.map_cons]
      unfold PyData.depthAll
      exact Nat.max_le.mpr ⟨c, c2⟩
theorem lv_cm {c : Cmd} (ok : CmdOk c) (f : FewC c) : Lv 0 (dCm c) ∧ wt (dCm c) ≤ 10000 ∧ (dCm c).depth ≤ 3 := by
  have lo : ∀ {n : Nat} {x : String}, ((Str.ofString x).cps.toList.all (fun c => decide (c < 128)) && decide ((Str.ofString x).length ≤ 600)) = true → Lv n (.str (Str.ofString x)) := fun h => lv_ofs h
  cases c with
  | dd z =>
    refine ⟨.tup _ (by simp) fun e he => ?_, ?_, by simp [dCm, PyData.depth, PyData.depthAll]⟩
    · simp only [List.mem_cons, List.not_mem_nil, or_false] at he
      rcases he with rfl | rfl
      · exact lo (by decide +kernel)
      · exact .str _ (fun c hc => by have := IsName.low ok c hc; omega) (Nat.le_trans (IsName.hi ok) (by decide))
    · have h8 := IsName.hi ok
      have h2 : (Str.ofString "do").length = 2 := by decide +kernel
      show (10 * (Str.ofString "do").length + 2) + 2 + ((10 * z.length + 2) + 2 + 0) + 3 ≤ 10000
      omega
  | mv m =>
    obtain ⟨a, b, c⟩ := lv_mv ok
    exact ⟨a, Nat.le_trans b (by decide), Nat.le_trans c (by decide)⟩
  | rep n ms =>
    obtain ⟨h1, h2, h3, h4⟩ := ok
    obtain ⟨a, b, c⟩ := lv_mvs h4
    have f : ms.length ≤ 4 := f
    refine ⟨.tup _ (by simp) fun e he => ?_, ?_, ?_⟩
    · simp only [List.mem_cons, List.not_mem_nil, or_false] at he
      rcases he with rfl | rfl | rfl
      · exact lo (by decide +kernel)
      · exact .int _ (by omega)
      · exact .tup _ (by rw [List.length_map]; omega) a
    · have h6 : (Str.ofString "repeat").length = 6 := by decide +kernel
      show (10 * (Str.ofString "repeat").length + 2) + 2 + (600 + 2 + ((wtA (ms.map dMv) + 3) + 2 + 0)) + 3 ≤ 10000
      omega
    · simp only [dCm, PyData.depth, PyData.depthAll]
      omega
/-- a command as a value -/
def Vc (K : PySem.W.Frag) (H : Hp) (v : V) : Prop := ∃ d, Dx K H v d ∧ Lv 0 d ∧ wt d ≤ 10000 ∧ d.depth ≤ 3
theorem Vc.mono {H H' : Hp} {v : V} (s : Same H H') (h : Vc K H v) : Vc K H' v := h.imp fun _ z => ⟨z.1.mono s, z.2⟩
theorem bl3 : ∀ b : Bool, (PyData.list [.bool b, .bool b, .bool b]).showable = true ∧ (PyData.list [.bool b, .bool b, .bool b]).hasDict = false ∧ (PyData.list [.bool b, .bool b, .bool b]).depth ≤ 32 ∧ (PyData.list [.bool b, .bool b, .bool b]).shown.length ≤ 1000 := by decide +kernel
theorem bl2 : ∀ b : Bool, (PyData.list [.bool b, .bool b]).showable = true ∧ (PyData.list [.bool b, .bool b]).hasDict = false ∧ (PyData.list [.bool b, .bool b]).depth ≤ 32 ∧ (PyData.list [.bool b, .bool b]).shown.length ≤ 1000 := by decide +kernel
theorem rp_bl3 {H : Hp} {l : Addr} {b : Bool} (e : H l = some (.lst [.bl b, .bl b, .bl b])) : Rp K H (.ref l) (PyData.list [.bool b, .bool b, .bool b]).shown := by
  obtain ⟨h1, h2, h3, h4⟩ := bl3 b
  exact .dat l _ (.lst (.inl (.inl e)) (.cons (.bl _) (.cons (.bl _) (.cons (.bl _) .nil)))) h1 h2 h3 (Nat.le_trans h4 (by decide))
theorem rp_bl2 {H : Hp} {l : Addr} {b : Bool} (e : H l = some (.lst [.bl b, .bl b])) : Rp K H (.ref l) (PyData.list [.bool b, .bool b]).shown := by
  obtain ⟨h1, h2, h3, h4⟩ := bl2 b
  exact .dat l _ (.lst (.inl (.inl e)) (.cons (.bl _) (.cons (.bl _) .nil))) h1 h2 h3 (Nat.le_trans h4 (by decide))
theorem nw_hidp {p : Addr} {H H' : Hp} (q : Pool H p) : Same (nw H H') (hid p H') := nw_hid (by
  obtain ⟨a, b, c, e, _⟩ := q
  rw [e]
  intro z
  cases z)
theorem pflds_no (t : Addr) : List.lookup (Str.ofString "is_command") (pflds t) = none := by
  have e : (Str.ofString "is_command" == Str.ofString "commands") = false := by decide +kernel
  simp only [pflds, List.lookup, e]
def dLast : PyData := dCm (.rep 2 [(true, some 3), (false, none)])
theorem last_ok : Lv 0 dLast ∧ wt dLast ≤ 10000 ∧ dLast.depth ≤ 3 := lv_cm (c := .rep 2 [(true, some 3), (false, none)]) ⟨by decide, by decide +kernel, by simp, fun m hm => by
  simp only [List.mem_cons, List.not_mem_nil, or_false] at hm
  rcases hm with rfl | rfl
  · exact ⟨by decide, by decide +kernel⟩
  · trivial⟩ (by decide : 2 ≤ 4)
def spRight (K : PySem.W.Frag) : Sp := fun vs H Q _ => ∃ (p : Addr), vs = [.ref p] ∧ Pool H p ∧ ∀ H', Stp p H H' → Q (.bl true) H'
theorem ok_right (T : TX K mg) : FnG P w K mg base CX0 15 T.f_law_right T.fd_law_right pRight (spRight K) := by
  have G_law_draw := ok_draw (P := P) (w := w) (K := K) (base := base) T.d_law_draw T.divmod
  have G_law_steps := ok_steps3 (P := P) (w := w) (base := base) T
  have G_law_odd := ok_odd (P := P) (w := w) (base := base) T
  have G_law_bent := ok_bent (P := P) (w := w) (base := base) T 8
  have G_law_is_step := ok_lstep (P := P) (w := w) (base := base) T
  have G_Program_init := ok_pinit (P := P) (w := w) (base := base) T
  have G_Program_is_command := ok_is_commandW (P := P) (w := w) (base := base) T
  refine okG0 T.d_law_right.F scRight (fun vs H Q E h => ?_) (fun cdv A outer s H vs Q E g hr h => ?_)
  · obtain ⟨p, rfl, _⟩ := h
    rfl
  · obtain ⟨p, rfl, pool, q⟩ := h
    refine ⟨_, pss_cons (ps_set (i := 1) scRight.nd rfl (.inl rfl) (pe_makeR0 T.mk_Program G_Program_init (hr.mono (by decide)) (by rfl) T.m_Program pass0))
      (pss_cons (ps_set (i := 2) scRight.nd rfl (.inl rfl) (pe_op (opCatT (K := K)) (pcall T.d_law_steps G_law_steps (hr.mono (by decide)) (by rfl) pass0 (pa_cons (pv 0) (pa_cons (pe_int) (pa_cons (pe_ix (ixL (K := K)) (peLstB (pa_cons (pe_int) (pa_cons (pe_int) pa_nil))) (pcall T.d_law_draw G_law_draw (hr.mono (by decide)) (by rfl) pass0 (pa_cons (pv 0) (pa_cons (pe_int) pa_nil))) (fun _ _ => rfl)) pa_nil)))) (pe_tup (pa_cons (pe_tup (pa_cons (pe_str) (pa_cons (pe_int) (pa_cons (pe_tup (pa_cons (pe_tup (pa_cons (pe_str) (pa_cons (pe_int) pa_nil))) (pa_cons (pe_tup (pa_cons (pe_str) (pa_cons (pe_non) pa_nil))) pa_nil))) pa_nil)))) pa_nil))))
      (pss_cons (ps_for PassesOwn.never rfl (pi_range1 (by rfl) T.range (pa_cons (pe_int) pa_nil)) (pg_name (i := 3) scRight.nd rfl (.inl rfl))
        (pss_cons (ps_set (i := 4) scRight.nd rfl (.inl rfl) (pe_ix (ixT (K := K)) (pv 2) (pcall T.d_law_draw G_law_draw (hr.mono (by decide)) (by rfl) pass0 (pa_cons (pv 0) (pa_cons (pe_callB (callLn (K := K)) (by rfl) T.len (by decide +kernel) (pa_cons (pv 2) pa_nil)) pa_nil))) (fun _ _ => rfl)))
      (pss_cons (ps_set (i := 5) scRight.nd rfl (.inl rfl) (peLstB (pa_cons (pv 4) (pa_cons (pcall T.d_law_bent G_law_bent (hr.mono (by decide)) (by rfl) pass0 (pa_cons (pv 0) (pa_cons (pv 4) pa_nil))) (pa_cons (pcallG T.d_law_odd G_law_odd g (hr.mono (by decide)) (by rfl) pass0 (pa_cons (pv 0) pa_nil)) pa_nil)))))
      (pss_cons (ps_set (i := 5) scRight.nd rfl (.inl rfl) (pe_op op_cat (pv 5) (peLstB (pa_cons (pcall T.d_law_bent G_law_bent (hr.mono (by decide)) (by rfl) pass0 (pa_cons (pv 0) (pa_cons (pcall T.d_law_bent G_law_bent (hr.mono (by decide)) (by rfl) pass0 (pa_cons (pv 0) (pa_cons (pv 4) pa_nil))) pa_nil))) (pa_cons (pv 4) pa_nil)))))
      (pss_one (ps_for PassesOwn.never rfl (piList (K := K) (pv 5)) (pg_name (i := 6) scRight.nd rfl (.inl rfl))
        (pss_cons (ps_par (i := 7) (j := 8) (by rfl) scRight.nd rfl rfl (by decide) rfl rfl (pa_cons (pe_callB (crRX (K := K) g (L2H.roomH_of hr)) (by rfl) T.repr (by decide +kernel) (pa_cons (pv 6) pa_nil)) (pa_cons (pcall T.d_law_is_step G_law_is_step (hr.mono (by decide)) (by rfl) pass0 (pa_cons (pv 6) pa_nil)) pa_nil)) (by rfl))
      (pss_cons (ps_set (i := 9) scRight.nd rfl (.inl rfl) (peLstB (pa_cons (pe_smeth (pe_glob (v := .ref T.C_Program) rfl T.m_Program rfl) T.cr_Program T.cs_Program_is_command (G_Program_is_command.raw T.b_Program_is_command .nil) (hr.mono (by decide)) pass0 (pa_cons (pv 6) pa_nil)) (pa_cons (pe_sinst (pv 1) T.si_Program_is_command (G_Program_is_command.raw T.b_Program_is_command .nil) (hr.mono (by decide)) pass0 (pa_cons (pv 6) pa_nil)) (pa_cons (pe_smethK0 (pe_glob (v := .ref T.C_Program) rfl T.m_Program rfl) T.cr_Program T.cs_Program_is_command G_Program_is_command (hr.mono (by decide)) T.kb_Program_is_command pass0 (pk_cons (pv 6) pk_nil)) pa_nil)))))
      (pss_one (ps_if (PW.pt (pw_or (pt_cmpR op_ne (pe_callB (crRX (K := K) g (L2H.roomH_of hr)) (by rfl) T.repr (by decide +kernel) (pa_cons (pv 9) pa_nil)) (pe_callB (crRX (K := K) g (L2H.roomH_of hr)) (by rfl) T.repr (by decide +kernel) (pa_cons (pe_op op_rep (peLstB (pa_cons (pv 8) pa_nil)) (pe_int)) pa_nil)) (nomark _)) (pw_or1 (pt_cmpR op_ne (pe_callB (crRX (K := K) g (L2H.roomH_of hr)) (by rfl) T.repr (by decide +kernel) (pa_cons (pv 6) pa_nil)) (pv 7) (nomark _))))) (pss_one (ps_ret (pe_bl))) (pss_nil)))))))))))
      (pss_one (ps_ret (pe_bl))))), ?_⟩
    walk_at "go"
    refine c_mkP (vs := []) (cs := []) T.t0_Program_init .nil (by simp) fun b H1 nb s1 hP => ?_
    have st1 : Stp p H H1 := .of pool s1
    walk_at "go"
    refine c_newLB (by simp) fun M H2 nM _ s2 eM => ?_
    have st2 : Stp p H H2 := st1.trans (.of st1.q s2)
    have pM := st1.q.ne nM
    walk_at "go"
    refine c_draw st2.q (by decide) (by decide) fun d H3 d0 d1 st3 => ?_
    have e3 := st3.at eM pM
    obtain ⟨j, mv, rfl, em, hmv⟩ : ∃ (j : Nat) (mv : Int), d = (j : Int) ∧ ([V.int 4, V.int 0] : List V)[j]? = some (V.int mv) ∧ 0 ≤ mv ∧ mv ≤ 9 := by
      rcases (show d = 0 ∨ d = 1 by omega) with rfl | rfl
      · exact ⟨0, 4, rfl, rfl, by omega, by omega⟩
      · exact ⟨1, 0, rfl, rfl, by omega, by omega⟩
    refine c_ixL (.inl (.inl e3)) j rfl em ?_
    have st03 := st2.trans st3
    refine ⟨p, 6, mv, rfl, st03.q, by omega, by omega, by omega, by omega, fun t us cs H4 st4 hU hA hok hl hsm => ?_⟩
    have st04 := st03.trans st4
    show tTup _ _ _ _
    apply lx_go (K := K) (te := tTup _)
    · walk_at "lit"
    intro v5 H5 s5 hv5
    have hU5 := same_seqT s5 hU
    obtain ⟨a5, us5, rfl, hT5, hA5⟩ := dx_tup hv5
    obtain ⟨u5, r5, rfl, hu5, hr5⟩ := dx_cons hA5
    obtain rfl := dx_nil hr5
    have q4 := st4.q
    refine c_catT hU5 (same_seqT nw_same hT5) (by rw [hA.1]; simp; omega) fun T6 H6 s6 hT6 => ?_
    have s46 := s5.trans s6
    have st06 := st04.trans (.of q4 s46)
    have hC : ∀ u ∈ us ++ [u5], Vc K (hid p H6) u := fun u hu => by
      rcases List.mem_append.mp hu with hu | hu
      · obtain ⟨i, hi, rfl⟩ := List.getElem_of_mem hu
        obtain ⟨c, hc, hcm⟩ := hA.get (List.getElem?_eq_getElem hi)
        have hmem := List.mem_of_getElem? hc
        obtain ⟨xa, xb, xc, ex, _⟩ := id q4
        obtain ⟨l1, l2, l3⟩ := lv_cm (hok c hmem).1 (sms_few hsm c hmem)
        exact ⟨dCm c, (cm_dx (CmdAt.hidD ex hcm)).mono (hid_mono s46), l1, l2, l3⟩
      · rw [List.mem_singleton.mp hu]
        obtain ⟨l1, l2, l3⟩ := last_ok
        exact ⟨dLast, (hu5.mono (nw_hidp q4)).mono (hid_mono s6), l1, l2, l3⟩
    have hl6 : (us ++ [u5]).length ≤ 100 := by
      rw [List.length_append, hA.1]
      have : cs.length ≤ 40 := hl
      simp
      omega
    have hl0 : 0 < (us ++ [u5]).length := by simp
    generalize us ++ [u5] = ts at *
    have q6 := st06.q
    obtain ⟨ya, yb, yc, ey, _⟩ := id q6
    have hTp := sqT_hid ey hT6
    obtain ⟨dx, tc, uc, eb, _⟩ := hP
    have eb6 := pool_stay st1.q ((Stp.of st1.q s2).trans (st3.trans (st4.trans (.of q4 s46)))) eb (by intro l z; cases z)
    have eb6p : hid p H6 b = _ := (hid_ne fun z => by rw [z, ey] at eb6; cases eb6).trans eb6
    clear hA hU hU5 hok hl hsm hT5 hA5 hu5 hr5 hv5 s5 s6 s46 st04 st03 st3 st4 st2 st1 s1 s2 eM e3 hT6 eb eb6 em
    walk_at "go"
    refine ⟨40, rfl, by omega, by omega, ?_⟩
    refine for_range (lo := 0) (n := 40) (fun i σ G => ∃ (y3 y4 y5 y6 y7 y8 y9 : Option V), σ = [some (.ref p), some (.ref b), some (.ref T6), y3, y4, y5, y6, y7, y8, y9] ∧ Stp p H6 G) ⟨_, _, _, _, _, _, _, rfl, .refl q6⟩ (fun i σ G hi h => ?_) (fun σ G h => ?_)
    rotate_left
    · obtain ⟨y3, y4, y5, y6, y7, y8, y9, rfl, st⟩ := h
      walk_at "go"
      exact q _ (st06.trans st)
    obtain ⟨y3, y4, y5, y6, y7, y8, y9, rfl, st⟩ := h
    have hT := same_seqT (hid_same p G) (same_seqT st.s hTp)
    walk_at "go"
    refine c_lnT hT ?_
    walk_at "go"
    refine c_draw (m := (ts.length : Int)) st.q (by omega) (by omega) fun r G1 r0 r1 st1 => ?_
    have st01 := st.trans st1
    have hT1 := same_seqT (hid_same p G1) (same_seqT st01.s hTp)
    refine c_ixT hT1 r.toNat (by omega) (List.getElem?_eq_getElem (by omega)) ?_
    have hv0 := (hC _ (List.getElem_mem (n := r.toNat) (h := by omega))).mono st01.s
    generalize ts[r.toNat]'_ = v at hv0 ⊢
    obtain ⟨d, hd, hlv, hw, hdp⟩ := hv0
    walk_at "go"
    refine ⟨p, v, d, 0, rfl, st01.q, hd, hlv, by omega, by omega, by omega, fun v2 d2 G2 st2 hd2 hb2 => ?_⟩
    obtain ⟨l2, w2, p2⟩ := hb2
    walk_at "go"
    have st02 := st01.trans st2
    refine ⟨p, rfl, st02.q, fun v3 d3 G3 st3 hd3 ok3 => ?_⟩
    have st03 := st02.trans st3
    have hd3 := hd3.mono (nw_hidp st02.q)
    walk_at "go"
    refine c_newLB (by simp) fun F4 G4 n4 b4 s4 e4 => ?_
    have p4 := st03.q.ne n4
    have st04 := st03.trans (.of st03.q s4)
    have hd4 := hd.mono ((st2.s.trans st3.s).trans (hid_mono s4))
    walk_at "go"
    refine ⟨p, v, d, 0, rfl, st04.q, hd4, hlv, by omega, by omega, by omega, fun v5 d5 G5 st5 hd5 hb5 => ?_⟩
    obtain ⟨l5, w5, p5⟩ := hb5
    have st05 := st04.trans st5
    walk_at "go"
    refine ⟨p, v5, d5, 1, rfl, st05.q, hd5, l5, by omega, by omega, by omega, fun v6 d6 G6 st6 hd6 hb6 => ?_⟩
    obtain ⟨l6, w6, p6⟩ := hb6
    have st06' := st05.trans st6
    walk_at "go"
    refine c_newLB (by simp) fun F7 G7 n7 b7 s7 e7 => ?_
    have e4' := s7 _ _ (st6.at (st5.at e4 p4) p4)
    refine c_catL e4' e7 (by simp) fun F G8 n8 s8 eF => ?_
    have s78 := s7.trans s8
    have st08 := st06'.trans (.of st06'.q s78)
    have k38 := (hid_mono s4 (p := p)).trans ((st5.s.trans st6.s).trans (hid_mono s78))
    have k18 := (st2.s.trans st3.s).trans k38
    have hv1 : Vx K (hid p G8) v := vx_lv (hd.mono k18) hlv (by omega) (by omega) (by omega)
    have hv2 : Vx K (hid p G8) v2 := vx_lv (hd2.mono (st3.s.trans k38)) l2 (by omega) (by omega) (by omega)
    have hv3 : Vx K (hid p G8) v3 := vx_odd (hd3.mono k38) ok3
    have hv6 : Vx K (hid p G8) v6 := vx_lv (hd6.mono (hid_mono s78)) l6 (by omega) (by omega) (by omega)
    have hall : ∀ (i : Nat) (x : V), ([v, v2, v3] ++ [v6, v] : List V)[i]? = some x → Vx K G8 x := fun i x e => by
      refine Vx.mono (hid_same p G8) ?_
      match i, e with
      | 0, e => exact Option.some.inj e ▸ hv1
      | 1, e => exact Option.some.inj e ▸ hv2
      | 2, e => exact Option.some.inj e ▸ hv3
      | 3, e => exact Option.some.inj e ▸ hv6
      | 4, e => exact Option.some.inj e ▸ hv1
    have eb8 := hid_same p G8 _ _ (st08.s _ _ eb6p)
    clear hT hT1 hd hlv hw hdp hd2 l2 w2 p2 hd3 ok3 hd4 hd5 l5 w5 p5 hd6 l6 w6 p6 k38 k18 hv1 hv2 hv3 hv6 e4' e4 e7 s7 s8 s78 st01 st1 st2 st3 st02 st03 st04 st5 st05 st6 s4
    walk_at "go"
    refine ⟨F, rfl, ⟨_, .inl (.inl eF)⟩, ?_⟩
    refine for_list (xs := [v, v2, v3] ++ [v6, v]) (fun _ σ G' => ∃ (y6 y7 y8 y9 : Option V), σ = [some (.ref p), some (.ref b), some (.ref T6), some (.int (0 + (i : Int))), some v, some (.ref F), y6, y7, y8, y9] ∧ Same G8 G') ⟨_, _, _, _, rfl, .refl _⟩ (fun k σ G' _ h => ?_) (fun k x σ G' hx h => ?_) (fun σ G' h => ?_)
    · obtain ⟨_, _, _, _, _, sx⟩ := h
      exact .inl (.inl (sx _ _ eF))
    · obtain ⟨z6, z7, z8, z9, rfl, sx⟩ := h
      obtain ⟨dd, hx0, hcm, hsh, hdp⟩ := (hall k x hx).mono sx
      have eb' := sx _ _ eb8
      walk_at "go"
      refine c_reprV hx0 hsh hdp ?_
      walk_at "go"
      refine ⟨x, _, rfl, cmQ_of hx0 hcm, fun K1 s1 => ?_⟩
      have hx1 := hx0.mono s1
      walk_at "go"
      refine ⟨rfl, ?_⟩
      walk_at "go"
      refine ⟨x, _, rfl, cmQ_of hx1 hcm, fun K2 s2 => ?_⟩
      have hx2 := hx1.mono s2
      walk_at "go"
      refine ⟨b, dx, _, rfl, s2 _ _ (s1 _ _ eb'), pflds_no tc, ?_⟩
      walk_at "go"
      refine ⟨x, _, rfl, cmQ_of hx2 hcm, fun K3 s3 => ?_⟩
      have hx3 := hx2.mono s3
      walk_at "go"
      refine ⟨rfl, ?_⟩
      walk_at "go"
      refine ⟨rfl, x, _, rfl, cmQ_of hx3 hcm, fun K4 s4 => ?_⟩
      have hx4 := hx3.mono s4
      generalize (cmOf dd).isSome = bb
      walk_at "go"
      refine c_newLB (by simp) fun L5 K5 _ _ s5 e5 => ?_
      walk_at "go"
      refine c_reprXE (rp_bl3 e5) ?_
      walk_at "go"
      refine c_newLB (by simp) fun L6 K6 _ _ s6 e6 => ?_
      walk_at "go"
      refine c_rep1 (k := 3) e6 (by decide) fun L7 K7 _ s7 e7 => ?_
      refine c_reprXE (rp_bl3 e7) ?_
      refine c_neq rfl ?_
      rw [w_same]
      walk_at "go"
      have s57 := s5.trans (s6.trans s7)
      refine c_reprV (hx4.mono s57) hsh hdp ?_
      walk_at "go"
      exact ⟨_, _, _, _, rfl, sx.trans (s1.trans (s2.trans (s3.trans (s4.trans s57))))⟩
    · obtain ⟨z6, z7, z8, z9, rfl, sx⟩ := h
      walk_at "go"
      exact ⟨_, _, _, _, _, _, _, rfl, st08.trans (.of st08.q sx)⟩
theorem is_cm {H : Hp} {v : V} {d : PyData} (h : Dx K H v d) (e : (cmSB d && (cmOf d).isSome) = true) : CmQ K H v true := by
  rw [Bool.and_eq_true] at e
  have := cmQ_of h (cmS_of e.1)
  rwa [e.2] at this
theorem no_cm {H : Hp} {v : V} {d : PyData} (h : Dx K H v d) (e : (cmSB d && !(cmOf d).isSome) = true) : CmQ K H v false := by
  rw [Bool.and_eq_true, Bool.not_eq_true'] at e
  have := cmQ_of h (cmS_of e.1)
  rwa [e.2] at this
def spLaw (K : PySem.W.Frag) : Sp := fun vs H Q _ => ∃ (a : Addr) (ns : List Int), vs = [.ref a] ∧ SqL K H a (ns.map V.int) ∧ ns.length ≤ 63 ∧ ∀ H', Q (.bl true) H'
theorem ok_law (T : TX K mg) : FnG P w K mg base CX0 16 T.f_law T.fd_law pLaw (spLaw K) := by
  have G_law_cell := ok_cell (P := P) (w := w) (K := K) (base := base) T.d_law_cell T.len
  have G_law_pool := ok_pool (P := P) (w := w) (K := K) (base := base) T.d_law_pool T.abs
  have G_law_right := ok_right (P := P) (w := w) (base := base) T
  have G_Program_init := ok_pinit (P := P) (w := w) (base := base) T
  have G_Program_is_command := ok_is_commandW (P := P) (w := w) (base := base) T
  refine okG0 T.d_law.F scLaw (fun vs H Q E h => ?_) (fun cdv A outer s H vs Q E g hr h => ?_)
  · obtain ⟨a, ns, rfl, _⟩ := h
    rfl
  · obtain ⟨a, ns, rfl, hS, hlen, q⟩ := h
    refine ⟨_, pss_cons (ps_for PassesOwn.never rfl (piList (K := K) (peLstB (pa_cons (pe_int) (pa_cons (pe_bl) (pa_cons (pe_int) pa_nil))))) (pg_name (i := 1) scLaw.nd rfl (.inl rfl))
        (pss_cons (ps_set (i := 2) scLaw.nd rfl (.inl rfl) (peLstB (pa_cons (pe_smeth (pe_glob (v := .ref T.C_Program) rfl T.m_Program rfl) T.cr_Program T.cs_Program_is_command (G_Program_is_command.raw T.b_Program_is_command .nil) (hr.mono (by decide)) pass0 (pa_cons (pe_tup (pa_cons (pe_str) (pa_cons (pv 1) pa_nil))) pa_nil)) (pa_cons (pe_smeth (pe_glob (v := .ref T.C_Program) rfl T.m_Program rfl) T.cr_Program T.cs_Program_is_command (G_Program_is_command.raw T.b_Program_is_command .nil) (hr.mono (by decide)) pass0 (pa_cons (pe_tup (pa_cons (pe_str) (pa_cons (pv 1) (pa_cons (pe_tup (pa_cons (pe_tup (pa_cons (pe_str) (pa_cons (pv 1) pa_nil))) pa_nil)) pa_nil)))) pa_nil)) pa_nil))))
      (pss_one (ps_if (pt_cmpR op_ne (pe_callB (crRX (K := K) g (L2H.roomH_of hr)) (by rfl) T.repr (by decide +kernel) (pa_cons (pv 2) pa_nil)) (pe_callB (crRX (K := K) g (L2H.roomH_of hr)) (by rfl) T.repr (by decide +kernel) (pa_cons (pe_op op_rep (peLstB (pa_cons (pe_not (pe_callB (callIsi (K := K)) (by rfl) T.isinstance (by decide +kernel) (pa_cons (pv 1) (pa_cons (pe_bltn (v := .ty "bool") (by rfl) T.bool (by decide +kernel) rfl) pa_nil)))) pa_nil)) (pe_int)) pa_nil)) (nomark _)) (pss_one (ps_ret (pe_bl))) (pss_nil)))))
      (pss_cons (ps_if (PW.pt (pw_or (pt_cmpR opNotBV (pe_smeth (pe_glob (v := .ref T.C_Program) rfl T.m_Program rfl) T.cr_Program T.cs_Program_is_command (G_Program_is_command.raw T.b_Program_is_command .nil) (hr.mono (by decide)) pass0 (pa_cons (pe_makeR0 T.mk_Program G_Program_init (hr.mono (by decide)) (by rfl) T.m_Program pass0) pa_nil)) (pe_bl) (nomark _)) (pw_or1 (pt_cmpR opNotBV (pe_smeth (pe_glob (v := .ref T.C_Program) rfl T.m_Program rfl) T.cr_Program T.cs_Program_is_command (G_Program_is_command.raw T.b_Program_is_command .nil) (hr.mono (by decide)) pass0 (pa_cons (StX.pe_makeR T.mk_Program G_Program_init (hr.mono (by decide)) (by rfl) T.m_Program pass0 (pa_cons (pe_tup (pa_cons (pe_str) (pa_cons (pe_str) pa_nil))) pa_nil)) pa_nil)) (pe_bl) (nomark _))))) (pss_one (ps_ret (pe_bl))) (pss_nil))
      (pss_one (ps_ret (pe_callB (crAll (K := K) rfl) (by rfl) T.all (by decide +kernel) (pa_cons (pe_lc (own := [("_law_k", 3)]) (g := gName 3) (tt := tYes) (by rfl) scLaw.nd (pi_range1 (by rfl) T.range (pa_cons (pe_callB (callMax2 rfl) (by rfl) T.max (by decide +kernel) (pa_cons (pe_int) (pa_cons (pe_callB (callMin2 rfl) (by rfl) T.min (by decide +kernel) (pa_cons (pe_callB (callLn (K := K)) (by rfl) T.len (by decide +kernel) (pa_cons (pv 0) pa_nil)) (pa_cons (pe_int) pa_nil))) pa_nil))) pa_nil)) (blkOk_by (own := [("_law_k", 3)]) (N := nLaw) (sc := defScope sLaw) (by decide +kernel)) (fun _ _ _ _ _ => pg_name (i := 3) scLaw.nd rfl (.inl rfl)) (fun _ _ _ _ _ => pts_nil) (fun _ _ _ _ _ => pcallG T.d_law_right G_law_right g (hr.mono (by decide)) (by rfl) pass0 (pa_cons (pcall T.d_law_pool G_law_pool (hr.mono (by decide)) (by rfl) pass0 (pa_cons (pcall T.d_law_cell G_law_cell (hr.mono (by decide)) (by rfl) pass0 (pa_cons (pv 0) (pa_cons (pv 3) pa_nil))) pa_nil)) pa_nil))) pa_nil))))), ?_⟩
    walk_at "go"
    refine c_newLB (by simp) fun F H1 nF bF s1 eF => ?_
    refine ⟨F, rfl, ⟨_, .inl (.inl eF)⟩, ?_⟩
    refine for_list (xs := [.int 1, .bl true, .int 1]) (fun _ σ G => ∃ (y1 y2 : Option V), σ = [some (.ref a), y1, y2, none] ∧ Same H1 G) ⟨_, _, rfl, .refl _⟩ (fun k σ G _ h => ?_) (fun k x σ G hx h => ?_) (fun σ G h => ?_)
    · obtain ⟨_, _, _, sx⟩ := h
      exact .inl (.inl (sx _ _ eF))
    · obtain ⟨y1, y2, rfl, sx⟩ := h
      walk_at "go"
      rcases (show x = .int 1 ∨ x = .bl true by
        match k, hx with
        | 0, e => exact .inl (Option.some.inj e).symm
        | 1, e => exact .inr (Option.some.inj e).symm
        | 2, e => exact .inl (Option.some.inj e).symm) with rfl | rfl
      · (
          refine ⟨rfl, ?_⟩
          walk_at "go"
          refine c_newT (by simp) fun t1 G1 _ g1 e1 => ?_
          walk_at "go"
          refine ⟨.ref t1, true, rfl, is_cm (d := .tuple [.str "undo", (.int 1)]) (.tup (.inl (.inl e1)) (.cons (.str _) (.cons (.int 1) .nil))) (by decide +kernel), fun G2 g2 => ?_⟩
          walk_at "go"
          refine ⟨rfl, ?_⟩
          walk_at "go"
          refine c_newT (by simp) fun t3 G3 _ g3 e3 => ?_
          walk_at "go"
          refine c_newT (by simp) fun t4 G4 _ g4 e4 => ?_
          walk_at "go"
          refine c_newT (by simp) fun t5 G5 _ g5 e5 => ?_
          walk_at "go"
          refine ⟨.ref t5, true, rfl, is_cm (d := .tuple [.str "repeat", (.int 1), .tuple [.tuple [.str "redo", (.int 1)]]]) (.tup (.inl (.inl e5)) (.cons (.str _) (.cons (.int 1) (.cons (.tup (.inl (.inl (g5 _ _ e4))) (.cons (.tup (.inl (.inl (g5 _ _ (g4 _ _ e3)))) (.cons (.str _) (.cons (.int 1) .nil))) .nil)) .nil)))) (by decide +kernel), fun G6 g6 => ?_⟩
          walk_at "go"
          refine c_newLB (by simp) fun L7 G7 _ _ g7 e7 => ?_
          walk_at "go"
          refine c_reprXE (rp_bl2 e7) ?_
          walk_at "go")
        refine c_isi (r := false) (ty_int 1) (by decide +kernel) ?_
        (
          walk_at "go"
          refine c_newLB (by simp) fun L8 G8 _ _ g8 e8 => ?_
          walk_at "go"
          refine c_rep1 (k := 2) e8 (by decide) fun L9 G9 _ g9 e9 => ?_
          refine c_reprXE (rp_bl2 e9) ?_
          walk_at "go"
          exact ⟨_, _, rfl, sx.trans (g1.trans (g2.trans (g3.trans (g4.trans (g5.trans (g6.trans (g7.trans (g8.trans g9)))))))) ⟩)
      · (
          refine ⟨rfl, ?_⟩
          walk_at "go"
          refine c_newT (by simp) fun t1 G1 _ g1 e1 => ?_
          walk_at "go"
          refine ⟨.ref t1, false, rfl, no_cm (d := .tuple [.str "undo", (.bool true)]) (.tup (.inl (.inl e1)) (.cons (.str _) (.cons (.bl true) .nil))) (by decide +kernel), fun G2 g2 => ?_⟩
          walk_at "go"
          refine ⟨rfl, ?_⟩
          walk_at "go"
          refine c_newT (by simp) fun t3 G3 _ g3 e3 => ?_
          walk_at "go"
          refine c_newT (by simp) fun t4 G4 _ g4 e4 => ?_
          walk_at "go"
          refine c_newT (by simp) fun t5 G5 _ g5 e5 => ?_
          walk_at "go"
          refine ⟨.ref t5, false, rfl, no_cm (d := .tuple [.str "repeat", (.bool true), .tuple [.tuple [.str "redo", (.bool true)]]]) (.tup (.inl (.inl e5)) (.cons (.str _) (.cons (.bl true) (.cons (.tup (.inl (.inl (g5 _ _ e4))) (.cons (.tup (.inl (.inl (g5 _ _ (g4 _ _ e3)))) (.cons (.str _) (.cons (.bl true) .nil))) .nil)) .nil)))) (by decide +kernel), fun G6 g6 => ?_⟩
          walk_at "go"
          refine c_newLB (by simp) fun L7 G7 _ _ g7 e7 => ?_
          walk_at "go"
          refine c_reprXE (rp_bl2 e7) ?_
          walk_at "go")
        refine c_isi (r := true) (ty_bl true) (by decide +kernel) ?_
        (
          walk_at "go"
          refine c_newLB (by simp) fun L8 G8 _ _ g8 e8 => ?_
          walk_at "go"
          refine c_rep1 (k := 2) e8 (by decide) fun L9 G9 _ g9 e9 => ?_
          refine c_reprXE (rp_bl2 e9) ?_
          walk_at "go"
          exact ⟨_, _, rfl, sx.trans (g1.trans (g2.trans (g3.trans (g4.trans (g5.trans (g6.trans (g7.trans (g8.trans g9)))))))) ⟩)
    · obtain ⟨y1, y2, rfl, sx⟩ := h
      walk_at "go"
      refine ⟨rfl, ?_⟩
      walk_at "go"
      refine c_mkP (vs := []) (cs := []) T.t0_Program_init .nil (by simp) fun b G1 nb g1 hP => ?_
      obtain ⟨dx, tc, uc, eb, _⟩ := hP
      walk_at "go"
      refine ⟨.ref b, false, rfl, .inr (.inr (.inr (.inl ⟨_, ty_ins T.is_Program eb, T.kt_of_Program_tuple, rfl⟩))), fun G2 g2 => ?_⟩
      walk_at "go"
      refine c_notBV ?_
      walk_at "go"
      rw [show decide (false ≠ false) = false from rfl]
      walk_at "go"
      refine ⟨rfl, ?_⟩
      walk_at "go"
      refine c_newT (by simp) fun t3 G3 _ g3 e3 => ?_
      walk_at "go"
      have na : IsName "a" := name_of (by decide +kernel)
      refine c_mkP (vs := [.ref t3]) (cs := [.dd "a"]) T.t0_Program_init (All2.one ⟨t3, rfl, .inl (.inl e3), na⟩) (by simp) fun b4 G4 nb4 g4 hP4 => ?_
      obtain ⟨dx4, tc4, uc4, eb4, _⟩ := hP4
      walk_at "go"
      refine ⟨.ref b4, false, rfl, .inr (.inr (.inr (.inl ⟨_, ty_ins T.is_Program eb4, T.kt_of_Program_tuple, rfl⟩))), fun G5 g5 => ?_⟩
      walk_at "go"
      refine c_notBV ?_
      walk_at "go"
      rw [show decide (false ≠ false) = false from rfl]
      walk_at "go"
      have hSS := (s1.trans (sx.trans (g1.trans (g2.trans (g3.trans (g4.trans g5)))))).seq hS
      (
        refine c_lnL hSS ?_
        walk_at "go"
        refine c_min2 ?_
        walk_at "go"
        refine c_max2 ?_
        walk_at "go"
        rw [List.length_map]
        refine ⟨_, rfl, by omega, by omega, fun D2 nD2 => ?_⟩
        refine lc_rg (fun _ v => v = V.bl true) nD2 (by omega) (fun _ => rfl) (fun i H1 Q' hi s1 k => ?_) (fun H1 xs s1 e1 l r => ?_)
        · walk_at "go"
          refine ⟨a, ns, _, rfl, s1.seq hSS, by omega, by omega, fun z H2 s2 => ?_⟩
          walk_at "go"
          refine ⟨z, rfl, fun p H3 np s3 pool => ?_⟩
          walk_at "go"
          refine ⟨p, rfl, pool, fun H4 st => ?_⟩
          refine k _ _ (fun b o e => ?_) rfl
          have e2 := s2 b o e
          have ne : p ≠ b := fun z => by
            rw [← z, np] at e2
            cases e2
          exact st.at (s3 _ _ e2) ne
        · obtain ⟨bs, rfl, hb⟩ := bls_of (n := 0) fun i y e => r i y e
          refine c_all (.inl (.inl e1)) ?_
          rw [hb]
          exact q _)
end
end Und
namespace Und
open PySem PySem.Spec PyProof.Rows L2
local macro_rules | `(tactic| walk_at "side") => `(tactic| first | decide | omega | exact ⟨by omega, by omega⟩ | (show (0 : Int) < _; omega) | (exact Or.inl ⟨by omega, by omega⟩) | (exact Or.inr ⟨by omega, by omega⟩) | (exact sz (by simp)) | (exact szl (by simp)))
local macro_rules | `(tactic| walk_at "u") => `(tactic| first
  | with_reducible refine c_seq ?_ | with_reducible refine c_next ?_ | with_reducible refine c_yes ?_ | with_reducible refine c_asg ?_ | with_reducible refine c_asg2 ?_ | with_reducible refine c_par ?_ | with_reducible refine c_two ?_ | with_reducible refine c_g ?_ | with_reducible refine c_gsub ?_ | with_reducible refine c_gcons ?_ | with_reducible refine c_gnil ?_ | with_reducible refine c_ret ?_ | with_reducible refine c_drop ?_
  | ((with_reducible refine c_var (v := ?v) ?h ?_); (case h => rfl)) | with_reducible refine c_c ?_ | with_reducible refine c_op ?_ | with_reducible refine c_un ?_ | with_reducible refine c_I0 ?_
  | ((with_reducible refine c_I ?h ?_); (case h => walk_at "side"))
  | ((with_reducible refine c_eq ?h ?_); (case h => rfl)) | ((with_reducible refine c_neq ?h ?_); (case h => rfl)) | with_reducible refine c_test ?_ | with_reducible refine c_B ?_ | with_reducible refine c_bl ?_ | with_reducible refine c_int ?_ | with_reducible refine c_ifs ?_ | with_reducible refine c_ife ?_
  | with_reducible refine c_andV ?_ | with_reducible refine c_orV ?_ | with_reducible refine c_notV ?_ | with_reducible refine c_and ?_ | with_reducible refine c_or ?_ | with_reducible refine c_not ?_
  | with_reducible refine c_call ?_ | with_reducible refine c_cb ?_ | with_reducible refine c_nil ?_ | with_reducible refine c_cons ?_
  | with_reducible refine c_tup ?_ | with_reducible refine c_lst ?_ | with_reducible refine c_sl ?_ | with_reducible refine c_nop ?_ | with_reducible refine c_part ?_ | with_reducible refine c_fld ?_
  | with_reducible refine c_for ?_ | with_reducible refine c_ilist ?_ | with_reducible refine c_itup ?_ | with_reducible refine c_irng1 ?_ | with_reducible refine c_lc ?_
  | with_reducible refine c_m1 ?_ | with_reducible refine c_isS ?_ | with_reducible refine c_chain ?_ | with_reducible refine c_str ?_ | with_reducible refine c_make ?_ | with_reducible refine c_meth ?_ | with_reducible refine c_prop ?_ | with_reducible refine c_sfld ?_ | with_reducible refine c_ienumT ?_ | with_reducible refine iteT ?_ | with_reducible refine iteF ?_ | with_reducible refine iteNT ?_ | with_reducible refine iteNF ?_
  | ((with_reducible refine iteDT ?h ?_); (case h => first | rfl | omega)) | ((with_reducible refine iteDF ?h ?_); (case h => first | omega | (intro z; cases z; done))) | ((with_reducible refine iteNDT ?h ?_); (case h => first | rfl | omega)) | ((with_reducible refine iteNDF ?h ?_); (case h => first | omega | (intro z; cases z; done))))
local macro_rules | `(tactic| walk_at "go") => `(tactic| repeat (walk_at "u"))
theorem all_mk {l : PySem.W.OpenLaw} {w : World} {K : PySem.W.Frag} {h : Heap} {mg : Str → Option Value} {fa : Addr} (X : K.In h) (G : h.Ns mainGlobals mg) (hfa : mg "law" = some (.ref fa))
    {f_IsInt : Addr} {od_IsInt an_IsInt : Option Addr} {sl_IsInt : Array (Option Value)} {oc_IsInt kV_IsInt dc_IsInt pm_IsInt cd_IsInt ct_IsInt : Value}
    {f_IsName : Addr} {od_IsName an_IsName : Option Addr} {sl_IsName : Array (Option Value)} {oc_IsName kV_IsName dc_IsName pm_IsName cd_IsName ct_IsName : Value}
    {f_IsAm : Addr} {od_IsAm an_IsAm : Option Addr} {sl_IsAm : Array (Option Value)} {oc_IsAm kV_IsAm dc_IsAm pm_IsAm cd_IsAm ct_IsAm : Value}
    {f_ChName : Addr} {od_ChName an_ChName : Option Addr} {sl_ChName : Array (Option Value)} {oc_ChName kV_ChName dc_ChName pm_ChName cd_ChName ct_ChName : Value}
    {f_ChNames : Addr} {od_ChNames an_ChNames : Option Addr} {sl_ChNames : Array (Option Value)} {oc_ChNames kV_ChNames dc_ChNames pm_ChNames cd_ChNames ct_ChNames : Value}
    {f_ChAm : Addr} {od_ChAm an_ChAm : Option Addr} {sl_ChAm : Array (Option Value)} {oc_ChAm kV_ChAm dc_ChAm pm_ChAm cd_ChAm ct_ChAm : Value}
    {f_Moved : Addr} {od_Moved an_Moved : Option Addr} {sl_Moved : Array (Option Value)} {oc_Moved kV_Moved dc_Moved pm_Moved cd_Moved ct_Moved : Value}
    {f_HWith : Addr} {od_HWith an_HWith : Option Addr} {sl_HWith : Array (Option Value)} {oc_HWith kV_HWith dc_HWith pm_HWith cd_HWith ct_HWith : Value}
    {f_ChHist : Addr} {od_ChHist an_ChHist : Option Addr} {sl_ChHist : Array (Option Value)} {oc_ChHist kV_ChHist dc_ChHist pm_ChHist cd_ChHist ct_ChHist : Value}
    {f_IsStep : Addr} {od_IsStep an_IsStep : Option Addr} {sl_IsStep : Array (Option Value)} {oc_IsStep kV_IsStep dc_IsStep pm_IsStep cd_IsStep ct_IsStep : Value}
    {f_IsRep : Addr} {od_IsRep an_IsRep : Option Addr} {sl_IsRep : Array (Option Value)} {oc_IsRep kV_IsRep dc_IsRep pm_IsRep cd_IsRep ct_IsRep : Value}
    {f_CmdTx : Addr} {od_CmdTx an_CmdTx : Option Addr} {sl_CmdTx : Array (Option Value)} {oc_CmdTx kV_CmdTx dc_CmdTx pm_CmdTx cd_CmdTx ct_CmdTx : Value}
    {f_PSteps : Addr} {od_PSteps an_PSteps : Option Addr} {sl_PSteps : Array (Option Value)} {oc_PSteps kV_PSteps dc_PSteps pm_PSteps cd_PSteps ct_PSteps : Value}
    {f_Shift : Addr} {od_Shift an_Shift : Option Addr} {sl_Shift : Array (Option Value)} {oc_Shift kV_Shift dc_Shift pm_Shift cd_Shift ct_Shift : Value}
    {f_PRep : Addr} {od_PRep an_PRep : Option Addr} {sl_PRep : Array (Option Value)} {oc_PRep kV_PRep dc_PRep pm_PRep cd_PRep ct_PRep : Value}
    {f_PAft : Addr} {od_PAft an_PAft : Option Addr} {sl_PAft : Array (Option Value)} {oc_PAft kV_PAft dc_PAft pm_PAft cd_PAft ct_PAft : Value}
    {f_NumIn : Addr} {od_NumIn an_NumIn : Option Addr} {sl_NumIn : Array (Option Value)} {oc_NumIn kV_NumIn dc_NumIn pm_NumIn cd_NumIn ct_NumIn : Value}
    {f_StepIn : Addr} {od_StepIn an_StepIn : Option Addr} {sl_StepIn : Array (Option Value)} {oc_StepIn kV_StepIn dc_StepIn pm_StepIn cd_StepIn ct_StepIn : Value}
    {f_RepIn : Addr} {od_RepIn an_RepIn : Option Addr} {sl_RepIn : Array (Option Value)} {oc_RepIn kV_RepIn dc_RepIn pm_RepIn cd_RepIn ct_RepIn : Value}
    {f_CmdIn : Addr} {od_CmdIn an_CmdIn : Option Addr} {sl_CmdIn : Array (Option Value)} {oc_CmdIn kV_CmdIn dc_CmdIn pm_CmdIn cd_CmdIn ct_CmdIn : Value}
    {f_POf : Addr} {od_POf an_POf : Option Addr} {sl_POf : Array (Option Value)} {oc_POf kV_POf dc_POf pm_POf cd_POf ct_POf : Value}
    {f_ChProg : Addr} {od_ChProg an_ChProg : Option Addr} {sl_ChProg : Array (Option Value)} {oc_ChProg kV_ChProg dc_ChProg pm_ChProg cd_ChProg ct_ChProg : Value}
    {f_Cell : Addr} {od_Cell an_Cell : Option Addr} {sl_Cell : Array (Option Value)} {oc_Cell kV_Cell dc_Cell pm_Cell cd_Cell ct_Cell : Value}
    {f_Pool : Addr} {od_Pool an_Pool : Option Addr} {sl_Pool : Array (Option Value)} {oc_Pool kV_Pool dc_Pool pm_Pool cd_Pool ct_Pool : Value}
    {f_Draw : Addr} {od_Draw an_Draw : Option Addr} {sl_Draw : Array (Option Value)} {oc_Draw kV_Draw dc_Draw pm_Draw cd_Draw ct_Draw : Value}
    {f_Calls : Addr} {od_Calls an_Calls : Option Addr} {sl_Calls : Array (Option Value)} {oc_Calls kV_Calls dc_Calls pm_Calls cd_Calls ct_Calls : Value}
    {f_Amnt : Addr} {od_Amnt an_Amnt : Option Addr} {sl_Amnt : Array (Option Value)} {oc_Amnt kV_Amnt dc_Amnt pm_Amnt cd_Amnt ct_Amnt : Value}
    {f_Moves : Addr} {od_Moves an_Moves : Option Addr} {sl_Moves : Array (Option Value)} {oc_Moves kV_Moves dc_Moves pm_Moves cd_Moves ct_Moves : Value}
    {f_Steps : Addr} {od_Steps an_Steps : Option Addr} {sl_Steps : Array (Option Value)} {oc_Steps kV_Steps dc_Steps pm_Steps cd_Steps ct_Steps : Value}
    {f_LWhole : Addr} {od_LWhole an_LWhole : Option Addr} {sl_LWhole : Array (Option Value)} {oc_LWhole kV_LWhole dc_LWhole pm_LWhole cd_LWhole ct_LWhole : Value}
    {f_LCall : Addr} {od_LCall an_LCall : Option Addr} {sl_LCall : Array (Option Value)} {oc_LCall kV_LCall dc_LCall pm_LCall cd_LCall ct_LCall : Value}
    {f_LMove : Addr} {od_LMove an_LMove : Option Addr} {sl_LMove : Array (Option Value)} {oc_LMove kV_LMove dc_LMove pm_LMove cd_LMove ct_LMove : Value}
    {f_LStep : Addr} {od_LStep an_LStep : Option Addr} {sl_LStep : Array (Option Value)} {oc_LStep kV_LStep dc_LStep pm_LStep cd_LStep ct_LStep : Value}
    {f_LOdd : Addr} {od_LOdd an_LOdd : Option Addr} {sl_LOdd : Array (Option Value)} {oc_LOdd kV_LOdd dc_LOdd pm_LOdd cd_LOdd ct_LOdd : Value}
    {f_LPart : Addr} {od_LPart an_LPart : Option Addr} {sl_LPart : Array (Option Value)} {oc_LPart kV_LPart dc_LPart pm_LPart cd_LPart ct_LPart : Value}
    {f_Bent : Addr} {od_Bent an_Bent : Option Addr} {sl_Bent : Array (Option Value)} {oc_Bent kV_Bent dc_Bent pm_Bent cd_Bent ct_Bent : Value}
    {f_Right : Addr} {od_Right an_Right : Option Addr} {sl_Right : Array (Option Value)} {oc_Right kV_Right dc_Right pm_Right cd_Right ct_Right : Value}
    {f_Law : Addr} {od_Law an_Law : Option Addr} {sl_Law : Array (Option Value)} {oc_Law kV_Law dc_Law pm_Law cd_Law ct_Law : Value}
    {t_LONGEST_NAME : Tok}
    {t_BEFORE_STEPS : Tok}
    {t_AFTER_STEPS : Tok}
    {C_History : Addr}
    {T_History_init : Addr} {oT_History_init : Obj} {nT_History_init : Nat}
    {f_History_init : Addr} {od_History_init an_History_init : Option Addr} {sl_History_init : Array (Option Value)} {oc_History_init kV_History_init dc_History_init pm_History_init cd_History_init ct_History_init : Value}
    {e0_History_init : Addr} {oe0_History_init : Obj} {ne0_History_init : Nat}
    {e1_History_init : Addr} {oe1_History_init : Obj} {ne1_History_init : Nat}
    {q_History_line : Addr} {rest_History_line : List Value}
    {f_History_line : Addr} {od_History_line an_History_line : Option Addr} {sl_History_line : Array (Option Value)} {oc_History_line kV_History_line dc_History_line pm_History_line cd_History_line ct_History_line : Value}
    {f_History_do : Addr} {od_History_do an_History_do : Option Addr} {sl_History_do : Array (Option Value)} {oc_History_do kV_History_do dc_History_do pm_History_do cd_History_do ct_History_do : Value}
    {T_History_undo : Addr} {oT_History_undo : Obj} {nT_History_undo : Nat}
    {f_History_undo : Addr} {od_History_undo an_History_undo : Option Addr} {sl_History_undo : Array (Option Value)} {oc_History_undo kV_History_undo dc_History_undo pm_History_undo cd_History_undo ct_History_undo : Value}
    {w0_History_undo : Tok}
    {T_History_redo : Addr} {oT_History_redo : Obj} {nT_History_redo : Nat}
    {f_History_redo : Addr} {od_History_redo an_History_redo : Option Addr} {sl_History_redo : Array (Option Value)} {oc_History_redo kV_History_redo dc_History_redo pm_History_redo cd_History_redo ct_History_redo : Value}
    {w0_History_redo : Tok}
    {f_History_eq : Addr} {od_History_eq an_History_eq : Option Addr} {sl_History_eq : Array (Option Value)} {oc_History_eq kV_History_eq dc_History_eq pm_History_eq cd_History_eq ct_History_eq : Value}
    {f_History_str : Addr} {od_History_str an_History_str : Option Addr} {sl_History_str : Array (Option Value)} {oc_History_str kV_History_str dc_History_str pm_History_str cd_History_str ct_History_str : Value}
    {q_History_of : Addr} {rest_History_of : List Value}
    {f_History_of : Addr} {od_History_of an_History_of : Option Addr} {sl_History_of : Array (Option Value)} {oc_History_of kV_History_of dc_History_of pm_History_of cd_History_of ct_History_of : Value}
    {C_Program : Addr}
    {f_Program_init D_Program_init : Addr} {od_Program_init an_Program_init : Option Addr} {sl_Program_init : Array (Option Value)} {oc_Program_init dc_Program_init pm_Program_init cd_Program_init ct_Program_init : Value}
    {e0_Program_init : Addr} {oe0_Program_init : Obj} {ne0_Program_init : Nat}
    {q_Program_read : Addr} {rest_Program_read : List Value}
    {f_Program_read : Addr} {od_Program_read an_Program_read : Option Addr} {sl_Program_read : Array (Option Value)} {oc_Program_read kV_Program_read dc_Program_read pm_Program_read cd_Program_read ct_Program_read : Value}
    {q_Program_is_command : Addr} {rest_Program_is_command : List Value}
    {f_Program_is_command : Addr} {od_Program_is_command an_Program_is_command : Option Addr} {sl_Program_is_command : Array (Option Value)} {oc_Program_is_command kV_Program_is_command dc_Program_is_command pm_Program_is_command cd_Program_is_command ct_Program_is_command : Value}
    {f_Program_len : Addr} {od_Program_len an_Program_len : Option Addr} {sl_Program_len : Array (Option Value)} {oc_Program_len kV_Program_len dc_Program_len pm_Program_len cd_Program_len ct_Program_len : Value}
    {f_Program_eq : Addr} {od_Program_eq an_Program_eq : Option Addr} {sl_Program_eq : Array (Option Value)} {oc_Program_eq kV_Program_eq dc_Program_eq pm_Program_eq cd_Program_eq ct_Program_eq : Value}
    {f_Program_str : Addr} {od_Program_str an_Program_str : Option Addr} {sl_Program_str : Array (Option Value)} {oc_Program_str kV_Program_str dc_Program_str pm_Program_str cd_Program_str ct_Program_str : Value}
    {f_Program_repr : Addr} {od_Program_repr an_Program_repr : Option Addr} {sl_Program_repr : Array (Option Value)} {oc_Program_repr kV_Program_repr dc_Program_repr pm_Program_repr cd_Program_repr ct_Program_repr : Value}
    (a_IsInt : PySem.W.nsIn K mainGlobals "is_integer" = some (some (.ref f_IsInt)))
    (l_IsInt : K.lookup f_IsInt = some ⟨oc_IsInt, od_IsInt, .func (PySem.W.fnOf "is_integer" "is_integer" (defArgs sIsInt) (defBody sIsInt) (defScope sIsInt) .none kV_IsInt dc_IsInt pm_IsInt an_IsInt cd_IsInt ct_IsInt), sl_IsInt⟩)
    (c_IsInt : PySem.W.codeIn K cd_IsInt "is_integer" = true)
    (k_IsInt : PySem.W.keepIn K (.ref f_IsInt) = true)
    (a_IsName : PySem.W.nsIn K mainGlobals "is_name" = some (some (.ref f_IsName)))
    (l_IsName : K.lookup f_IsName = some ⟨oc_IsName, od_IsName, .func (PySem.W.fnOf "is_name" "is_name" (defArgs sIsName) (defBody sIsName) (defScope sIsName) .none kV_IsName dc_IsName pm_IsName an_IsName cd_IsName ct_IsName), sl_IsName⟩)
    (c_IsName : PySem.W.codeIn K cd_IsName "is_name" = true)
    (k_IsName : PySem.W.keepIn K (.ref f_IsName) = true)
    (a_IsAm : PySem.W.nsIn K mainGlobals "is_amount" = some (some (.ref f_IsAm)))
    (l_IsAm : K.lookup f_IsAm = some ⟨oc_IsAm, od_IsAm, .func (PySem.W.fnOf "is_amount" "is_amount" (defArgs sIsAm) (defBody sIsAm) (defScope sIsAm) .none kV_IsAm dc_IsAm pm_IsAm an_IsAm cd_IsAm ct_IsAm), sl_IsAm⟩)
    (c_IsAm : PySem.W.codeIn K cd_IsAm "is_amount" = true)
    (k_IsAm : PySem.W.keepIn K (.ref f_IsAm) = true)
    (a_ChName : PySem.W.nsIn K mainGlobals "check_name" = some (some (.ref f_ChName)))
    (l_ChName : K.lookup f_ChName = some ⟨oc_ChName, od_ChName, .func (PySem.W.fnOf "check_name" "check_name" (defArgs sChName) (defBody sChName) (defScope sChName) .none kV_ChName dc_ChName pm_ChName an_ChName cd_ChName ct_ChName), sl_ChName⟩)
    (c_ChName : PySem.W.codeIn K cd_ChName "check_name" = true)
    (k_ChName : PySem.W.keepIn K (.ref f_ChName) = true)
    (a_ChNames : PySem.W.nsIn K mainGlobals "check_names" = some (some (.ref f_ChNames)))
    (l_ChNames : K.lookup f_ChNames = some ⟨oc_ChNames, od_ChNames, .func (PySem.W.fnOf "check_names" "check_names" (defArgs sChNames) (defBody sChNames) (defScope sChNames) .none kV_ChNames dc_ChNames pm_ChNames an_ChNames cd_ChNames ct_ChNames), sl_ChNames⟩)
    (c_ChNames : PySem.W.codeIn K cd_ChNames "check_names" = true)
    (k_ChNames : PySem.W.keepIn K (.ref f_ChNames) = true)
    (a_ChAm : PySem.W.nsIn K mainGlobals "check_amount" = some (some (.ref f_ChAm)))
    (l_ChAm : K.lookup f_ChAm = some ⟨oc_ChAm, od_ChAm, .func (PySem.W.fnOf "check_amount" "check_amount" (defArgs sChAm) (defBody sChAm) (defScope sChAm) .none kV_ChAm dc_ChAm pm_ChAm an_ChAm cd_ChAm ct_ChAm), sl_ChAm⟩)
    (c_ChAm : PySem.W.codeIn K cd_ChAm "check_amount" = true)
    (k_ChAm : PySem.W.keepIn K (.ref f_ChAm) = true)
    (a_Moved : PySem.W.nsIn K mainGlobals "number_moved" = some (some (.ref f_Moved)))
    (l_Moved : K.lookup f_Moved = some ⟨oc_Moved, od_Moved, .func (PySem.W.fnOf "number_moved" "number_moved" (defArgs sMoved) (defBody sMoved) (defScope sMoved) .none kV_Moved dc_Moved pm_Moved an_Moved cd_Moved ct_Moved), sl_Moved⟩)
    (c_Moved : PySem.W.codeIn K cd_Moved "number_moved" = true)
    (k_Moved : PySem.W.keepIn K (.ref f_Moved) = true)
    (a_HWith : PySem.W.nsIn K mainGlobals "history_with" = some (some (.ref f_HWith)))
    (l_HWith : K.lookup f_HWith = some ⟨oc_HWith, od_HWith, .func (PySem.W.fnOf "history_with" "history_with" (defArgs sHWith) (defBody sHWith) (defScope sHWith) .none kV_HWith dc_HWith pm_HWith an_HWith cd_HWith ct_HWith), sl_HWith⟩)
    (c_HWith : PySem.W.codeIn K cd_HWith "history_with" = true)
    (k_HWith : PySem.W.keepIn K (.ref f_HWith) = true)
    (a_ChHist : PySem.W.nsIn K mainGlobals "check_history" = some (some (.ref f_ChHist)))
    (l_ChHist : K.lookup f_ChHist = some ⟨oc_ChHist, od_ChHist, .func (PySem.W.fnOf "check_history" "check_history" (defArgs sChHist) (defBody sChHist) (defScope sChHist) .none kV_ChHist dc_ChHist pm_ChHist an_ChHist cd_ChHist ct_ChHist), sl_ChHist⟩)
    (c_ChHist : PySem.W.codeIn K cd_ChHist "check_history" = true)
    (k_ChHist : PySem.W.keepIn K (.ref f_ChHist) = true)
    (a_IsStep : PySem.W.nsIn K mainGlobals "is_step" = some (some (.ref f_IsStep)))
    (l_IsStep : K.lookup f_IsStep = some ⟨oc_IsStep, od_IsStep, .func (PySem.W.fnOf "is_step" "is_step" (defArgs sIsStep) (defBody sIsStep) (defScope sIsStep) .none kV_IsStep dc_IsStep pm_IsStep an_IsStep cd_IsStep ct_IsStep), sl_IsStep⟩)
    (c_IsStep : PySem.W.codeIn K cd_IsStep "is_step" = true)
    (k_IsStep : PySem.W.keepIn K (.ref f_IsStep) = true)
    (a_IsRep : PySem.W.nsIn K mainGlobals "is_repeat" = some (some (.ref f_IsRep)))
    (l_IsRep : K.lookup f_IsRep = some ⟨oc_IsRep, od_IsRep, .func (PySem.W.fnOf "is_repeat" "is_repeat" (defArgs sIsRep) (defBody sIsRep) (defScope sIsRep) .none kV_IsRep dc_IsRep pm_IsRep an_IsRep cd_IsRep ct_IsRep), sl_IsRep⟩)
    (c_IsRep : PySem.W.codeIn K cd_IsRep "is_repeat" = true)
    (k_IsRep : PySem.W.keepIn K (.ref f_IsRep) = true)
    (a_CmdTx : PySem.W.nsIn K mainGlobals "command_text" = some (some (.ref f_CmdTx)))
    (l_CmdTx : K.lookup f_CmdTx = some ⟨oc_CmdTx, od_CmdTx, .func (PySem.W.fnOf "command_text" "command_text" (defArgs sCmdTx) (defBody sCmdTx) (defScope sCmdTx) .none kV_CmdTx dc_CmdTx pm_CmdTx an_CmdTx cd_CmdTx ct_CmdTx), sl_CmdTx⟩)
    (c_CmdTx : PySem.W.codeIn K cd_CmdTx "command_text" = true)
    (k_CmdTx : PySem.W.keepIn K (.ref f_CmdTx) = true)
    (a_PSteps : PySem.W.nsIn K mainGlobals "place_after_steps" = some (some (.ref f_PSteps)))
    (l_PSteps : K.lookup f_PSteps = some ⟨oc_PSteps, od_PSteps, .func (PySem.W.fnOf "place_after_steps" "place_after_steps" (defArgs sPSteps) (defBody sPSteps) (defScope sPSteps) .none kV_PSteps dc_PSteps pm_PSteps an_PSteps cd_PSteps ct_PSteps), sl_PSteps⟩)
    (c_PSteps : PySem.W.codeIn K cd_PSteps "place_after_steps" = true)
    (k_PSteps : PySem.W.keepIn K (.ref f_PSteps) = true)
    (a_Shift : PySem.W.nsIn K mainGlobals "shift_of_steps" = some (some (.ref f_Shift)))
    (l_Shift : K.lookup f_Shift = some ⟨oc_Shift, od_Shift, .func (PySem.W.fnOf "shift_of_steps" "shift_of_steps" (defArgs sShift) (defBody sShift) (defScope sShift) .none kV_Shift dc_Shift pm_Shift an_Shift cd_Shift ct_Shift), sl_Shift⟩)
    (c_Shift : PySem.W.codeIn K cd_Shift "shift_of_steps" = true)
    (k_Shift : PySem.W.keepIn K (.ref f_Shift) = true)
    (a_PRep : PySem.W.nsIn K mainGlobals "place_after_repeat" = some (some (.ref f_PRep)))
    (l_PRep : K.lookup f_PRep = some ⟨oc_PRep, od_PRep, .func (PySem.W.fnOf "place_after_repeat" "place_after_repeat" (defArgs sPRep) (defBody sPRep) (defScope sPRep) .none kV_PRep dc_PRep pm_PRep an_PRep cd_PRep ct_PRep), sl_PRep⟩)
    (c_PRep : PySem.W.codeIn K cd_PRep "place_after_repeat" = true)
    (k_PRep : PySem.W.keepIn K (.ref f_PRep) = true)
    (a_PAft : PySem.W.nsIn K mainGlobals "place_after" = some (some (.ref f_PAft)))
    (l_PAft : K.lookup f_PAft = some ⟨oc_PAft, od_PAft, .func (PySem.W.fnOf "place_after" "place_after" (defArgs sPAft) (defBody sPAft) (defScope sPAft) .none kV_PAft dc_PAft pm_PAft an_PAft cd_PAft ct_PAft), sl_PAft⟩)
    (c_PAft : PySem.W.codeIn K cd_PAft "place_after" = true)
    (k_PAft : PySem.W.keepIn K (.ref f_PAft) = true)
    (a_NumIn : PySem.W.nsIn K mainGlobals "number_in" = some (some (.ref f_NumIn)))
    (l_NumIn : K.lookup f_NumIn = some ⟨oc_NumIn, od_NumIn, .func (PySem.W.fnOf "number_in" "number_in" (defArgs sNumIn) (defBody sNumIn) (defScope sNumIn) .none kV_NumIn dc_NumIn pm_NumIn an_NumIn cd_NumIn ct_NumIn), sl_NumIn⟩)
    (c_NumIn : PySem.W.codeIn K cd_NumIn "number_in" = true)
    (k_NumIn : PySem.W.keepIn K (.ref f_NumIn) = true)
    (a_StepIn : PySem.W.nsIn K mainGlobals "step_in" = some (some (.ref f_StepIn)))
    (l_StepIn : K.lookup f_StepIn = some ⟨oc_StepIn, od_StepIn, .func (PySem.W.fnOf "step_in" "step_in" (defArgs sStepIn) (defBody sStepIn) (defScope sStepIn) .none kV_StepIn dc_StepIn pm_StepIn an_StepIn cd_StepIn ct_StepIn), sl_StepIn⟩)
    (c_StepIn : PySem.W.codeIn K cd_StepIn "step_in" = true)
    (k_StepIn : PySem.W.keepIn K (.ref f_StepIn) = true)
    (a_RepIn : PySem.W.nsIn K mainGlobals "repeat_in" = some (some (.ref f_RepIn)))
    (l_RepIn : K.lookup f_RepIn = some ⟨oc_RepIn, od_RepIn, .func (PySem.W.fnOf "repeat_in" "repeat_in" (defArgs sRepIn) (defBody sRepIn) (defScope sRepIn) .none kV_RepIn dc_RepIn pm_RepIn an_RepIn cd_RepIn ct_RepIn), sl_RepIn⟩)
    (c_RepIn : PySem.W.codeIn K cd_RepIn "repeat_in" = true)
    (k_RepIn : PySem.W.keepIn K (.ref f_RepIn) = true)
    (a_CmdIn : PySem.W.nsIn K mainGlobals "command_in" = some (some (.ref f_CmdIn)))
    (l_CmdIn : K.lookup f_CmdIn = some ⟨oc_CmdIn, od_CmdIn, .func (PySem.W.fnOf "command_in" "command_in" (defArgs sCmdIn) (defBody sCmdIn) (defScope sCmdIn) .none kV_CmdIn dc_CmdIn pm_CmdIn an_CmdIn cd_CmdIn ct_CmdIn), sl_CmdIn⟩)
    (c_CmdIn : PySem.W.codeIn K cd_CmdIn "command_in" = true)
    (k_CmdIn : PySem.W.keepIn K (.ref f_CmdIn) = true)
    (a_POf : PySem.W.nsIn K mainGlobals "program_of" = some (some (.ref f_POf)))
    (l_POf : K.lookup f_POf = some ⟨oc_POf, od_POf, .func (PySem.W.fnOf "program_of" "program_of" (defArgs sPOf) (defBody sPOf) (defScope sPOf) .none kV_POf dc_POf pm_POf an_POf cd_POf ct_POf), sl_POf⟩)
    (c_POf : PySem.W.codeIn K cd_POf "program_of" = true)
    (k_POf : PySem.W.keepIn K (.ref f_POf) = true)
    (a_ChProg : PySem.W.nsIn K mainGlobals "check_program" = some (some (.ref f_ChProg)))
    (l_ChProg : K.lookup f_ChProg = some ⟨oc_ChProg, od_ChProg, .func (PySem.W.fnOf "check_program" "check_program" (defArgs sChProg) (defBody sChProg) (defScope sChProg) .none kV_ChProg dc_ChProg pm_ChProg an_ChProg cd_ChProg ct_ChProg), sl_ChProg⟩)
    (c_ChProg : PySem.W.codeIn K cd_ChProg "check_program" = true)
    (k_ChProg : PySem.W.keepIn K (.ref f_ChProg) = true)
    (a_Cell : PySem.W.nsIn K mainGlobals "_law_cell" = some (some (.ref f_Cell)))
    (l_Cell : K.lookup f_Cell = some ⟨oc_Cell, od_Cell, .func (PySem.W.fnOf "_law_cell" "_law_cell" (defArgs sCell) (defBody sCell) (defScope sCell) .none kV_Cell dc_Cell pm_Cell an_Cell cd_Cell ct_Cell), sl_Cell⟩)
    (c_Cell : PySem.W.codeIn K cd_Cell "_law_cell" = true)
    (k_Cell : PySem.W.keepIn K (.ref f_Cell) = true)
    (a_Pool : PySem.W.nsIn K mainGlobals "_law_pool" = some (some (.ref f_Pool)))
    (l_Pool : K.lookup f_Pool = some ⟨oc_Pool, od_Pool, .func (PySem.W.fnOf "_law_pool" "_law_pool" (defArgs sPool) (defBody sPool) (defScope sPool) .none kV_Pool dc_Pool pm_Pool an_Pool cd_Pool ct_Pool), sl_Pool⟩)
    (c_Pool : PySem.W.codeIn K cd_Pool "_law_pool" = true)
    (k_Pool : PySem.W.keepIn K (.ref f_Pool) = true)
    (a_Draw : PySem.W.nsIn K mainGlobals "_law_draw" = some (some (.ref f_Draw)))
    (l_Draw : K.lookup f_Draw = some ⟨oc_Draw, od_Draw, .func (PySem.W.fnOf "_law_draw" "_law_draw" (defArgs sDraw) (defBody sDraw) (defScope sDraw) .none kV_Draw dc_Draw pm_Draw an_Draw cd_Draw ct_Draw), sl_Draw⟩)
    (c_Draw : PySem.W.codeIn K cd_Draw "_law_draw" = true)
    (k_Draw : PySem.W.keepIn K (.ref f_Draw) = true)
    (a_Calls : PySem.W.nsIn K mainGlobals "_law_calls" = some (some (.ref f_Calls)))
    (l_Calls : K.lookup f_Calls = some ⟨oc_Calls, od_Calls, .func (PySem.W.fnOf "_law_calls" "_law_calls" (defArgs sCalls) (defBody sCalls) (defScope sCalls) .none kV_Calls dc_Calls pm_Calls an_Calls cd_Calls ct_Calls), sl_Calls⟩)
    (c_Calls : PySem.W.codeIn K cd_Calls "_law_calls" = true)
    (k_Calls : PySem.W.keepIn K (.ref f_Calls) = true)
    (a_Amnt : PySem.W.nsIn K mainGlobals "_law_amount" = some (some (.ref f_Amnt)))
    (l_Amnt : K.lookup f_Amnt = some ⟨oc_Amnt, od_Amnt, .func (PySem.W.fnOf "_law_amount" "_law_amount" (defArgs sAmnt) (defBody sAmnt) (defScope sAmnt) .none kV_Amnt dc_Amnt pm_Amnt an_Amnt cd_Amnt ct_Amnt), sl_Amnt⟩)
    (c_Amnt : PySem.W.codeIn K cd_Amnt "_law_amount" = true)
    (k_Amnt : PySem.W.keepIn K (.ref f_Amnt) = true)
    (a_Moves : PySem.W.nsIn K mainGlobals "_law_moves" = some (some (.ref f_Moves)))
    (l_Moves : K.lookup f_Moves = some ⟨oc_Moves, od_Moves, .func (PySem.W.fnOf "_law_moves" "_law_moves" (defArgs sMoves) (defBody sMoves) (defScope sMoves) .none kV_Moves dc_Moves pm_Moves an_Moves cd_Moves ct_Moves), sl_Moves⟩)
    (c_Moves : PySem.W.codeIn K cd_Moves "_law_moves" = true)
    (k_Moves : PySem.W.keepIn K (.ref f_Moves) = true)
    (a_Steps : PySem.W.nsIn K mainGlobals "_law_steps" = some (some (.ref f_Steps)))
    (l_Steps : K.lookup f_Steps = some ⟨oc_Steps, od_Steps, .func (PySem.W.fnOf "_law_steps" "_law_steps" (defArgs sSteps) (defBody sSteps) (defScope sSteps) .none kV_Steps dc_Steps pm_Steps an_Steps cd_Steps ct_Steps), sl_Steps⟩)
    (c_Steps : PySem.W.codeIn K cd_Steps "_law_steps" = true)
    (k_Steps : PySem.W.keepIn K (.ref f_Steps) = true)
    (a_LWhole : PySem.W.nsIn K mainGlobals "_law_is_whole" = some (some (.ref f_LWhole)))
    (l_LWhole : K.lookup f_LWhole = some ⟨oc_LWhole, od_LWhole, .func (PySem.W.fnOf "_law_is_whole" "_law_is_whole" (defArgs sLWhole) (defBody sLWhole) (defScope sLWhole) .none kV_LWhole dc_LWhole pm_LWhole an_LWhole cd_LWhole ct_LWhole), sl_LWhole⟩)
    (c_LWhole : PySem.W.codeIn K cd_LWhole "_law_is_whole" = true)
    (k_LWhole : PySem.W.keepIn K (.ref f_LWhole) = true)
    (a_LCall : PySem.W.nsIn K mainGlobals "_law_is_call" = some (some (.ref f_LCall)))
    (l_LCall : K.lookup f_LCall = some ⟨oc_LCall, od_LCall, .func (PySem.W.fnOf "_law_is_call" "_law_is_call" (defArgs sLCall) (defBody sLCall) (defScope sLCall) .none kV_LCall dc_LCall pm_LCall an_LCall cd_LCall ct_LCall), sl_LCall⟩)
    (c_LCall : PySem.W.codeIn K cd_LCall "_law_is_call" = true)
    (k_LCall : PySem.W.keepIn K (.ref f_LCall) = true)
    (a_LMove : PySem.W.nsIn K mainGlobals "_law_is_move" = some (some (.ref f_LMove)))
    (l_LMove : K.lookup f_LMove = some ⟨oc_LMove, od_LMove, .func (PySem.W.fnOf "_law_is_move" "_law_is_move" (defArgs sLMove) (defBody sLMove) (defScope sLMove) .none kV_LMove dc_LMove pm_LMove an_LMove cd_LMove ct_LMove), sl_LMove⟩)
    (c_LMove : PySem.W.codeIn K cd_LMove "_law_is_move" = true)
    (k_LMove : PySem.W.keepIn K (.ref f_LMove) = true)
    (a_LStep : PySem.W.nsIn K mainGlobals "_law_is_step" = some (some (.ref f_LStep)))
    (l_LStep : K.lookup f_LStep = some ⟨oc_LStep, od_LStep, .func (PySem.W.fnOf "_law_is_step" "_law_is_step" (defArgs sLStep) (defBody sLStep) (defScope sLStep) .none kV_LStep dc_LStep pm_LStep an_LStep cd_LStep ct_LStep), sl_LStep⟩)
    (c_LStep : PySem.W.codeIn K cd_LStep "_law_is_step" = true)
    (k_LStep : PySem.W.keepIn K (.ref f_LStep) = true)
    (a_LOdd : PySem.W.nsIn K mainGlobals "_law_odd" = some (some (.ref f_LOdd)))
    (l_LOdd : K.lookup f_LOdd = some ⟨oc_LOdd, od_LOdd, .func (PySem.W.fnOf "_law_odd" "_law_odd" (defArgs sLOdd) (defBody sLOdd) (defScope sLOdd) .none kV_LOdd dc_LOdd pm_LOdd an_LOdd cd_LOdd ct_LOdd), sl_LOdd⟩)
    (c_LOdd : PySem.W.codeIn K cd_LOdd "_law_odd" = true)
    (k_LOdd : PySem.W.keepIn K (.ref f_LOdd) = true)
    (a_LPart : PySem.W.nsIn K mainGlobals "_law_part" = some (some (.ref f_LPart)))
    (l_LPart : K.lookup f_LPart = some ⟨oc_LPart, od_LPart, .func (PySem.W.fnOf "_law_part" "_law_part" (defArgs sLPart) (defBody sLPart) (defScope sLPart) .none kV_LPart dc_LPart pm_LPart an_LPart cd_LPart ct_LPart), sl_LPart⟩)
    (c_LPart : PySem.W.codeIn K cd_LPart "_law_part" = true)
    (k_LPart : PySem.W.keepIn K (.ref f_LPart) = true)
    (a_Bent : PySem.W.nsIn K mainGlobals "_law_bent" = some (some (.ref f_Bent)))
    (l_Bent : K.lookup f_Bent = some ⟨oc_Bent, od_Bent, .func (PySem.W.fnOf "_law_bent" "_law_bent" (defArgs sBent) (defBody sBent) (defScope sBent) .none kV_Bent dc_Bent pm_Bent an_Bent cd_Bent ct_Bent), sl_Bent⟩)
    (c_Bent : PySem.W.codeIn K cd_Bent "_law_bent" = true)
    (k_Bent : PySem.W.keepIn K (.ref f_Bent) = true)
    (a_Right : PySem.W.nsIn K mainGlobals "_law_right" = some (some (.ref f_Right)))
    (l_Right : K.lookup f_Right = some ⟨oc_Right, od_Right, .func (PySem.W.fnOf "_law_right" "_law_right" (defArgs sRight) (defBody sRight) (defScope sRight) .none kV_Right dc_Right pm_Right an_Right cd_Right ct_Right), sl_Right⟩)
    (c_Right : PySem.W.codeIn K cd_Right "_law_right" = true)
    (k_Right : PySem.W.keepIn K (.ref f_Right) = true)
    (a_Law : PySem.W.nsIn K mainGlobals "law" = some (some (.ref f_Law)))
    (l_Law : K.lookup f_Law = some ⟨oc_Law, od_Law, .func (PySem.W.fnOf "law" "law" (defArgs sLaw) (defBody sLaw) (defScope sLaw) .none kV_Law dc_Law pm_Law an_Law cd_Law ct_Law), sl_Law⟩)
    (c_Law : PySem.W.codeIn K cd_Law "law" = true)
    (k_Law : PySem.W.keepIn K (.ref f_Law) = true)
    (z_abs : PySem.W.nsIn K mainGlobals "abs" = some none)
    (z_all : PySem.W.nsIn K mainGlobals "all" = some none)
    (z_any : PySem.W.nsIn K mainGlobals "any" = some none)
    (z_bool : PySem.W.nsIn K mainGlobals "bool" = some none)
    (z_divmod : PySem.W.nsIn K mainGlobals "divmod" = some none)
    (z_enumerate : PySem.W.nsIn K mainGlobals "enumerate" = some none)
    (z_int : PySem.W.nsIn K mainGlobals "int" = some none)
    (z_isinstance : PySem.W.nsIn K mainGlobals "isinstance" = some none)
    (z_len : PySem.W.nsIn K mainGlobals "len" = some none)
    (z_list : PySem.W.nsIn K mainGlobals "list" = some none)
    (z_max : PySem.W.nsIn K mainGlobals "max" = some none)
    (z_min : PySem.W.nsIn K mainGlobals "min" = some none)
    (z_range : PySem.W.nsIn K mainGlobals "range" = some none)
    (z_repr : PySem.W.nsIn K mainGlobals "repr" = some none)
    (z_str : PySem.W.nsIn K mainGlobals "str" = some none)
    (z_sum : PySem.W.nsIn K mainGlobals "sum" = some none)
    (z_tuple : PySem.W.nsIn K mainGlobals "tuple" = some none)
    (a_LONGEST_NAME : PySem.W.nsIn K mainGlobals "LONGEST_NAME" = some (some (.int 8 t_LONGEST_NAME)))
    (a_BEFORE_STEPS : PySem.W.nsIn K mainGlobals "BEFORE_STEPS" = some (some (.str (Str.ofString "times (") t_BEFORE_STEPS)))
    (a_AFTER_STEPS : PySem.W.nsIn K mainGlobals "AFTER_STEPS" = some (some (.str (Str.ofString ")") t_AFTER_STEPS)))
    (aC_History : PySem.W.nsIn K mainGlobals "History" = some (some (.ref C_History)))
    (pg_History : PySem.W.plainGet K C_History Str.empty = true)
    (hd_History : PySem.W.hasDictIn K C_History = true)
    (po_History : PySem.W.plainOver K C_History = true)
    (sa_History : PySem.W.findIn K (.ref C_History) "__setattr__" = some (some (.builtin "object.__setattr__")))
    (mk_History : PySem.W.makesIn K C_History = true)
    (kc_History : PySem.W.keepIn K (.ref C_History) = true)
    (ia_History : PySem.W.findIn K (.ref C_History) "__class__" = some (some (.builtin "object.__class__")))
    (in_History : PySem.W.specialIn K (.builtin "object.__class__") "__get__" = some (some (.builtin "getset_descriptor.__get__")))
    (it_History : PySem.W.takesIn K (.builtin "object.__class__") = some true)
    (im_History : PySem.W.mroIn K C_History (.type "object") = some true)
    (n_History_past : PySem.W.findIn K (.ref C_History) "past" = some none)
    (n_History_future : PySem.W.findIn K (.ref C_History) "future" = some none)
    (ai_History_init : PySem.W.findIn K (.ref C_History) "__init__" = some (some (.ref f_History_init)))
    (l_History_init : K.lookup f_History_init = some ⟨oc_History_init, od_History_init, .func (PySem.W.fnOf "__init__" "History.__init__" (defArgs sHInit) (defBody sHInit) (defScope sHInit) (.ref T_History_init) kV_History_init dc_History_init pm_History_init an_History_init cd_History_init ct_History_init), sl_History_init⟩)
    (c_History_init : PySem.W.codeIn K cd_History_init "History.__init__" = true)
    (k_History_init : PySem.W.keepIn K (.ref f_History_init) = true)
    (lT_History_init : K.lookup T_History_init = some oT_History_init)
    (oT_d_History_init : oT_History_init.data = .seq #[.ref e0_History_init, .ref e1_History_init] nT_History_init)
    (le0_History_init : K.lookup e0_History_init = some oe0_History_init)
    (ce0_History_init : oe0_History_init.cls = .type "tuple")
    (de0_History_init : oe0_History_init.data = .seq #[] ne0_History_init)
    (le1_History_init : K.lookup e1_History_init = some oe1_History_init)
    (ce1_History_init : oe1_History_init.cls = .type "tuple")
    (de1_History_init : oe1_History_init.data = .seq #[] ne1_History_init)
    (ii_History_init : PySem.W.isFn K (.ref f_History_init) = true)
    (qa_History_line : PySem.W.findIn K (.ref C_History) "line" = some (some (.ref q_History_line)))
    (qr_History_line : PySem.W.recIn K q_History_line "property" = some (.ref f_History_line :: rest_History_line))
    (l_History_line : K.lookup f_History_line = some ⟨oc_History_line, od_History_line, .func (PySem.W.fnOf "line" "History.line" (defArgs sHLine) (defBody sHLine) (defScope sHLine) .none kV_History_line dc_History_line pm_History_line an_History_line cd_History_line ct_History_line), sl_History_line⟩)
    (c_History_line : PySem.W.codeIn K cd_History_line "History.line" = true)
    (k_History_line : PySem.W.keepIn K (.ref f_History_line) = true)
    (qg_History_line : PySem.W.specialIn K (.ref q_History_line) "__get__" = some (some (.builtin "property.__get__")))
    (qt_History_line : PySem.W.takesIn K (.ref q_History_line) = some true)
    (me_History_do : PySem.W.findIn K (.ref C_History) "do" = some (some (.ref f_History_do)))
    (l_History_do : K.lookup f_History_do = some ⟨oc_History_do, od_History_do, .func (PySem.W.fnOf "do" "History.do" (defArgs sHDo) (defBody sHDo) (defScope sHDo) .none kV_History_do dc_History_do pm_History_do an_History_do cd_History_do ct_History_do), sl_History_do⟩)
    (c_History_do : PySem.W.codeIn K cd_History_do "History.do" = true)
    (k_History_do : PySem.W.keepIn K (.ref f_History_do) = true)
    (mi_History_do : PySem.W.isFn K (.ref f_History_do) = true)
    (me_History_undo : PySem.W.findIn K (.ref C_History) "undo" = some (some (.ref f_History_undo)))
    (l_History_undo : K.lookup f_History_undo = some ⟨oc_History_undo, od_History_undo, .func (PySem.W.fnOf "undo" "History.undo" (defArgs sHUndo) (defBody sHUndo) (defScope sHUndo) (.ref T_History_undo) kV_History_undo dc_History_undo pm_History_undo an_History_undo cd_History_undo ct_History_undo), sl_History_undo⟩)
    (c_History_undo : PySem.W.codeIn K cd_History_undo "History.undo" = true)
    (k_History_undo : PySem.W.keepIn K (.ref f_History_undo) = true)
    (lT_History_undo : K.lookup T_History_undo = some oT_History_undo)
    (oT_d_History_undo : oT_History_undo.data = .seq #[.int 1 w0_History_undo] nT_History_undo)
    (mi_History_undo : PySem.W.isFn K (.ref f_History_undo) = true)
    (me_History_redo : PySem.W.findIn K (.ref C_History) "redo" = some (some (.ref f_History_redo)))
    (l_History_redo : K.lookup f_History_redo = some ⟨oc_History_redo, od_History_redo, .func (PySem.W.fnOf "redo" "History.redo" (defArgs sHRedo) (defBody sHRedo) (defScope sHRedo) (.ref T_History_redo) kV_History_redo dc_History_redo pm_History_redo an_History_redo cd_History_redo ct_History_redo), sl_History_redo⟩)
    (c_History_redo : PySem.W.codeIn K cd_History_redo "History.redo" = true)
    (k_History_redo : PySem.W.keepIn K (.ref f_History_redo) = true)
    (lT_History_redo : K.lookup T_History_redo = some oT_History_redo)
    (oT_d_History_redo : oT_History_redo.data = .seq #[.int 1 w0_History_redo] nT_History_redo)
    (mi_History_redo : PySem.W.isFn K (.ref f_History_redo) = true)
    (me_History_eq : PySem.W.findIn K (.ref C_History) "__eq__" = some (some (.ref f_History_eq)))
    (l_History_eq : K.lookup f_History_eq = some ⟨oc_History_eq, od_History_eq, .func (PySem.W.fnOf "__eq__" "History.__eq__" (defArgs sHEq) (defBody sHEq) (defScope sHEq) .none kV_History_eq dc_History_eq pm_History_eq an_History_eq cd_History_eq ct_History_eq), sl_History_eq⟩)
    (c_History_eq : PySem.W.codeIn K cd_History_eq "History.__eq__" = true)
    (k_History_eq : PySem.W.keepIn K (.ref f_History_eq) = true)
    (mi_History_eq : PySem.W.isFn K (.ref f_History_eq) = true)
    (mn_History_eq : PySem.W.findIn K (.ref C_History) "__ne__" = some (some (.builtin "object.__ne__")))
    (me_History_str : PySem.W.findIn K (.ref C_History) "__str__" = some (some (.ref f_History_str)))
    (l_History_str : K.lookup f_History_str = some ⟨oc_History_str, od_History_str, .func (PySem.W.fnOf "__str__" "History.__str__" (defArgs sHStr) (defBody sHStr) (defScope sHStr) .none kV_History_str dc_History_str pm_History_str an_History_str cd_History_str ct_History_str), sl_History_str⟩)
    (c_History_str : PySem.W.codeIn K cd_History_str "History.__str__" = true)
    (k_History_str : PySem.W.keepIn K (.ref f_History_str) = true)
    (mi_History_str : PySem.W.isFn K (.ref f_History_str) = true)
    (sa_History_of : PySem.W.findCls K (.ref C_History) (.type "type") "of" = some (.get (.builtin "classmethod.__get__") (.ref q_History_of) .none (.ref C_History)))
    (sr_History_of : PySem.W.recIn K q_History_of "classmethod" = some (.ref f_History_of :: rest_History_of))
    (fn_History_of : PySem.W.fnIn K f_History_of = true)
    (rd_History : PySem.W.readsIn K C_History (.type "type") = true)
    (ga_History : PySem.W.specialIn K (.ref C_History) "__getattribute__" = some (some (.builtin "type.__getattribute__")))
    (l_History_of : K.lookup f_History_of = some ⟨oc_History_of, od_History_of, .func (PySem.W.fnOf "of" "History.of" (defArgs sHOf) (defBody sHOf) (defScope sHOf) .none kV_History_of dc_History_of pm_History_of an_History_of cd_History_of ct_History_of), sl_History_of⟩)
    (c_History_of : PySem.W.codeIn K cd_History_of "History.of" = true)
    (k_History_of : PySem.W.keepIn K (.ref f_History_of) = true)
    (aC_Program : PySem.W.nsIn K mainGlobals "Program" = some (some (.ref C_Program)))
    (pg_Program : PySem.W.plainGet K C_Program Str.empty = true)
    (hd_Program : PySem.W.hasDictIn K C_Program = true)
    (po_Program : PySem.W.plainOver K C_Program = true)
    (sa_Program : PySem.W.findIn K (.ref C_Program) "__setattr__" = some (some (.builtin "object.__setattr__")))
    (mk_Program : PySem.W.makesIn K C_Program = true)
    (kc_Program : PySem.W.keepIn K (.ref C_Program) = true)
    (ia_Program : PySem.W.findIn K (.ref C_Program) "__class__" = some (some (.builtin "object.__class__")))
    (in_Program : PySem.W.specialIn K (.builtin "object.__class__") "__get__" = some (some (.builtin "getset_descriptor.__get__")))
    (it_Program : PySem.W.takesIn K (.builtin "object.__class__") = some true)
    (im_Program : PySem.W.mroIn K C_Program (.type "object") = some true)
    (kt_of_Program_tuple : PySem.W.kitOne K (.ref C_Program) (.type "tuple") = some false)
    (n_Program_commands : PySem.W.findIn K (.ref C_Program) "commands" = some none)
    (n_Program___bool__ : PySem.W.findIn K (.ref C_Program) "__bool__" = some none)
    (ai_Program_init : PySem.W.findIn K (.ref C_Program) "__init__" = some (some (.ref f_Program_init)))
    (l_Program_init : K.lookup f_Program_init = some ⟨oc_Program_init, od_Program_init, .func (PySem.W.fnOf "__init__" "Program.__init__" (defArgs sPInit) (defBody sPInit) (defScope sPInit) .none (.ref D_Program_init) dc_Program_init pm_Program_init an_Program_init cd_Program_init ct_Program_init), sl_Program_init⟩)
    (c_Program_init : PySem.W.codeIn K cd_Program_init "Program.__init__" = true)
    (k_Program_init : PySem.W.keepIn K (.ref f_Program_init) = true)
    (kq_Program_init : PySem.W.nsIn K D_Program_init "joined" = some (some (.ref e0_Program_init)))
    (le0_Program_init : K.lookup e0_Program_init = some oe0_Program_init)
    (ce0_Program_init : oe0_Program_init.cls = .type "tuple")
    (de0_Program_init : oe0_Program_init.data = .seq #[] ne0_Program_init)
    (ii_Program_init : PySem.W.isFn K (.ref f_Program_init) = true)
    (sa_Program_read : PySem.W.findCls K (.ref C_Program) (.type "type") "read" = some (.get (.builtin "classmethod.__get__") (.ref q_Program_read) .none (.ref C_Program)))
    (sr_Program_read : PySem.W.recIn K q_Program_read "classmethod" = some (.ref f_Program_read :: rest_Program_read))
    (fn_Program_read : PySem.W.fnIn K f_Program_read = true)
    (l_Program_read : K.lookup f_Program_read = some ⟨oc_Program_read, od_Program_read, .func (PySem.W.fnOf "read" "Program.read" (defArgs sPRead) (defBody sPRead) (defScope sPRead) .none kV_Program_read dc_Program_read pm_Program_read an_Program_read cd_Program_read ct_Program_read), sl_Program_read⟩)
    (c_Program_read : PySem.W.codeIn K cd_Program_read "Program.read" = true)
    (k_Program_read : PySem.W.keepIn K (.ref f_Program_read) = true)
    (sa_Program_is_command : PySem.W.findCls K (.ref C_Program) (.type "type") "is_command" = some (.get (.builtin "staticmethod.__get__") (.ref q_Program_is_command) .none (.ref C_Program)))
    (sr_Program_is_command : PySem.W.recIn K q_Program_is_command "staticmethod" = some (.ref f_Program_is_command :: rest_Program_is_command))
    (rd_Program : PySem.W.readsIn K C_Program (.type "type") = true)
    (ga_Program : PySem.W.specialIn K (.ref C_Program) "__getattribute__" = some (some (.builtin "type.__getattribute__")))
    (l_Program_is_command : K.lookup f_Program_is_command = some ⟨oc_Program_is_command, od_Program_is_command, .func (PySem.W.fnOf "is_command" "Program.is_command" (defArgs sIsCmd) (defBody sIsCmd) (defScope sIsCmd) .none kV_Program_is_command dc_Program_is_command pm_Program_is_command an_Program_is_command cd_Program_is_command ct_Program_is_command), sl_Program_is_command⟩)
    (c_Program_is_command : PySem.W.codeIn K cd_Program_is_command "Program.is_command" = true)
    (k_Program_is_command : PySem.W.keepIn K (.ref f_Program_is_command) = true)
    (ic_Program : PySem.W.isClsIn K C_Program = true)
    (if_Program_is_command : PySem.W.findIn K (.ref C_Program) "is_command" = some (some (.ref q_Program_is_command)))
    (iy_Program_is_command : PySem.W.typeIn K (.ref q_Program_is_command) = some (.type "staticmethod"))
    (ig_Program_is_command : PySem.W.specialIn K (.ref q_Program_is_command) "__get__" = some (some (.builtin "staticmethod.__get__")))
    (ik_Program_is_command : PySem.W.takesIn K (.ref q_Program_is_command) = some false)
    (me_Program_len : PySem.W.findIn K (.ref C_Program) "__len__" = some (some (.ref f_Program_len)))
    (l_Program_len : K.lookup f_Program_len = some ⟨oc_Program_len, od_Program_len, .func (PySem.W.fnOf "__len__" "Program.__len__" (defArgs sPLen) (defBody sPLen) (defScope sPLen) .none kV_Program_len dc_Program_len pm_Program_len an_Program_len cd_Program_len ct_Program_len), sl_Program_len⟩)
    (c_Program_len : PySem.W.codeIn K cd_Program_len "Program.__len__" = true)
    (k_Program_len : PySem.W.keepIn K (.ref f_Program_len) = true)
    (mi_Program_len : PySem.W.isFn K (.ref f_Program_len) = true)
    (me_Program_eq : PySem.W.findIn K (.ref C_Program) "__eq__" = some (some (.ref f_Program_eq)))
    (l_Program_eq : K.lookup f_Program_eq = some ⟨oc_Program_eq, od_Program_eq, .func (PySem.W.fnOf "__eq__" "Program.__eq__" (defArgs sPEq) (defBody sPEq) (defScope sPEq) .none kV_Program_eq dc_Program_eq pm_Program_eq an_Program_eq cd_Program_eq ct_Program_eq), sl_Program_eq⟩)
    (c_Program_eq : PySem.W.codeIn K cd_Program_eq "Program.__eq__" = true)
    (k_Program_eq : PySem.W.keepIn K (.ref f_Program_eq) = true)
    (mi_Program_eq : PySem.W.isFn K (.ref f_Program_eq) = true)
    (mn_Program_eq : PySem.W.findIn K (.ref C_Program) "__ne__" = some (some (.builtin "object.__ne__")))
    (me_Program_str : PySem.W.findIn K (.ref C_Program) "__str__" = some (some (.ref f_Program_str)))
    (l_Program_str : K.lookup f_Program_str = some ⟨oc_Program_str, od_Program_str, .func (PySem.W.fnOf "__str__" "Program.__str__" (defArgs sPStr) (defBody sPStr) (defScope sPStr) .none kV_Program_str dc_Program_str pm_Program_str an_Program_str cd_Program_str ct_Program_str), sl_Program_str⟩)
    (c_Program_str : PySem.W.codeIn K cd_Program_str "Program.__str__" = true)
    (k_Program_str : PySem.W.keepIn K (.ref f_Program_str) = true)
    (mi_Program_str : PySem.W.isFn K (.ref f_Program_str) = true)
    (me_Program_repr : PySem.W.findIn K (.ref C_Program) "__repr__" = some (some (.ref f_Program_repr)))
    (l_Program_repr : K.lookup f_Program_repr = some ⟨oc_Program_repr, od_Program_repr, .func (PySem.W.fnOf "__repr__" "Program.__repr__" (defArgs sPRepr) (defBody sPRepr) (defScope sPRepr) .none kV_Program_repr dc_Program_repr pm_Program_repr an_Program_repr cd_Program_repr ct_Program_repr), sl_Program_repr⟩)
    (c_Program_repr : PySem.W.codeIn K cd_Program_repr "Program.__repr__" = true)
    (k_Program_repr : PySem.W.keepIn K (.ref f_Program_repr) = true)
    (mi_Program_repr : PySem.W.isFn K (.ref f_Program_repr) = true) :
    ∃ fd : FuncData, (∀ (s : Shared) (v : Value), BindsTo s fd ⟨[v], []⟩ [("_law_script", v)]) ∧ ∀ base : Heap, K.In base → base.Ns mainGlobals mg → FnG l.prog w K mg base CX0 16 fa fd ["_law_script"] (spLaw K) := by
  have e := hfa.symm.trans (PySem.W.mg_of X G a_Law)
  have e2 : f_Law = fa := by
    cases e
    rfl
  subst e2
  have F_IsInt := fun_mk (st := sIsInt) l_IsInt c_IsInt k_IsInt
  have b_IsInt := F_IsInt.binds (ps := pIsInt) fun _ _ _ _ _ _ us hl => match us, hl with | [_, _], _ => rfl
  have F_IsName := fun_mk (st := sIsName) l_IsName c_IsName k_IsName
  have b_IsName := F_IsName.binds (ps := pIsName) fun _ _ _ _ _ _ us hl => match us, hl with | [_], _ => rfl
  have F_IsAm := fun_mk (st := sIsAm) l_IsAm c_IsAm k_IsAm
  have b_IsAm := F_IsAm.binds (ps := pIsAm) fun _ _ _ _ _ _ us hl => match us, hl with | [_], _ => rfl
  have F_ChName := fun_mk (st := sChName) l_ChName c_ChName k_ChName
  have b_ChName := F_ChName.binds (ps := pChName) fun _ _ _ _ _ _ us hl => match us, hl with | [_], _ => rfl
  have F_ChNames := fun_mk (st := sChNames) l_ChNames c_ChNames k_ChNames
  have b_ChNames := F_ChNames.binds (ps := pChNames) fun _ _ _ _ _ _ us hl => match us, hl with | [_], _ => rfl
  have F_ChAm := fun_mk (st := sChAm) l_ChAm c_ChAm k_ChAm
  have b_ChAm := F_ChAm.binds (ps := pChAm) fun _ _ _ _ _ _ us hl => match us, hl with | [_], _ => rfl
  have F_Moved := fun_mk (st := sMoved) l_Moved c_Moved k_Moved
  have b_Moved := F_Moved.binds (ps := pMoved) fun _ _ _ _ _ _ us hl => match us, hl with | [_, _], _ => rfl
  have F_HWith := fun_mk (st := sHWith) l_HWith c_HWith k_HWith
  have b_HWith := F_HWith.binds (ps := pHWith) fun _ _ _ _ _ _ us hl => match us, hl with | [_, _], _ => rfl
  have F_ChHist := fun_mk (st := sChHist) l_ChHist c_ChHist k_ChHist
  have b_ChHist := F_ChHist.binds (ps := pChHist) fun _ _ _ _ _ _ us hl => match us, hl with | [_], _ => rfl
  have F_IsStep := fun_mk (st := sIsStep) l_IsStep c_IsStep k_IsStep
  have b_IsStep := F_IsStep.binds (ps := pIsStep) fun _ _ _ _ _ _ us hl => match us, hl with | [_], _ => rfl
  have F_IsRep := fun_mk (st := sIsRep) l_IsRep c_IsRep k_IsRep
  have b_IsRep := F_IsRep.binds (ps := pIsRep) fun _ _ _ _ _ _ us hl => match us, hl with | [_], _ => rfl
  have F_CmdTx := fun_mk (st := sCmdTx) l_CmdTx c_CmdTx k_CmdTx
  have b_CmdTx := F_CmdTx.binds (ps := pCmdTx) fun _ _ _ _ _ _ us hl => match us, hl with | [_], _ => rfl
  have F_PSteps := fun_mk (st := sPSteps) l_PSteps c_PSteps k_PSteps
  have b_PSteps := F_PSteps.binds (ps := pPSteps) fun _ _ _ _ _ _ us hl => match us, hl with | [_, _, _], _ => rfl
  have F_Shift := fun_mk (st := sShift) l_Shift c_Shift k_Shift
  have b_Shift := F_Shift.binds (ps := pShift) fun _ _ _ _ _ _ us hl => match us, hl with | [_, _], _ => rfl
  have F_PRep := fun_mk (st := sPRep) l_PRep c_PRep k_PRep
  have b_PRep := F_PRep.binds (ps := pPRep) fun _ _ _ _ _ _ us hl => match us, hl with | [_, _, _, _], _ => rfl
  have F_PAft := fun_mk (st := sPAft) l_PAft c_PAft k_PAft
  have b_PAft := F_PAft.binds (ps := pPAft) fun _ _ _ _ _ _ us hl => match us, hl with | [_, _, _], _ => rfl
  have F_NumIn := fun_mk (st := sNumIn) l_NumIn c_NumIn k_NumIn
  have b_NumIn := F_NumIn.binds (ps := pNumIn) fun _ _ _ _ _ _ us hl => match us, hl with | [_], _ => rfl
  have F_StepIn := fun_mk (st := sStepIn) l_StepIn c_StepIn k_StepIn
  have b_StepIn := F_StepIn.binds (ps := pStepIn) fun _ _ _ _ _ _ us hl => match us, hl with | [_, _], _ => rfl
  have F_RepIn := fun_mk (st := sRepIn) l_RepIn c_RepIn k_RepIn
  have b_RepIn := F_RepIn.binds (ps := pRepIn) fun _ _ _ _ _ _ us hl => match us, hl with | [_, _], _ => rfl
  have F_CmdIn := fun_mk (st := sCmdIn) l_CmdIn c_CmdIn k_CmdIn
  have b_CmdIn := F_CmdIn.binds (ps := pCmdIn) fun _ _ _ _ _ _ us hl => match us, hl with | [_], _ => rfl
  have F_POf := fun_mk (st := sPOf) l_POf c_POf k_POf
  have b_POf := F_POf.binds (ps := pPOf) fun _ _ _ _ _ _ us hl => match us, hl with | [_], _ => rfl
  have F_ChProg := fun_mk (st := sChProg) l_ChProg c_ChProg k_ChProg
  have b_ChProg := F_ChProg.binds (ps := pChProg) fun _ _ _ _ _ _ us hl => match us, hl with | [_], _ => rfl
  have F_Cell := fun_mk (st := sCell) l_Cell c_Cell k_Cell
  have b_Cell := F_Cell.binds (ps := pCell) fun _ _ _ _ _ _ us hl => match us, hl with | [_, _], _ => rfl
  have F_Pool := fun_mk (st := sPool) l_Pool c_Pool k_Pool
  have b_Pool := F_Pool.binds (ps := pPool) fun _ _ _ _ _ _ us hl => match us, hl with | [_], _ => rfl
  have F_Draw := fun_mk (st := sDraw) l_Draw c_Draw k_Draw
  have b_Draw := F_Draw.binds (ps := pDraw) fun _ _ _ _ _ _ us hl => match us, hl with | [_, _], _ => rfl
  have F_Calls := fun_mk (st := sCalls) l_Calls c_Calls k_Calls
  have b_Calls := F_Calls.binds (ps := pCalls) fun _ _ _ _ _ _ us hl => match us, hl with | [_, _], _ => rfl
  have F_Amnt := fun_mk (st := sAmnt) l_Amnt c_Amnt k_Amnt
  have b_Amnt := F_Amnt.binds (ps := pAmnt) fun _ _ _ _ _ _ us hl => match us, hl with | [_, _], _ => rfl
  have F_Moves := fun_mk (st := sMoves) l_Moves c_Moves k_Moves
  have b_Moves := F_Moves.binds (ps := pMoves) fun _ _ _ _ _ _ us hl => match us, hl with | [_, _, _], _ => rfl
  have F_Steps := fun_mk (st := sSteps) l_Steps c_Steps k_Steps
  have b_Steps := F_Steps.binds (ps := pSteps) fun _ _ _ _ _ _ us hl => match us, hl with | [_, _, _], _ => rfl
  have F_LWhole := fun_mk (st := sLWhole) l_LWhole c_LWhole k_LWhole
  have b_LWhole := F_LWhole.binds (ps := pLWhole) fun _ _ _ _ _ _ us hl => match us, hl with | [_], _ => rfl
  have F_LCall := fun_mk (st := sLCall) l_LCall c_LCall k_LCall
  have b_LCall := F_LCall.binds (ps := pLCall) fun _ _ _ _ _ _ us hl => match us, hl with | [_], _ => rfl
  have F_LMove := fun_mk (st := sLMove) l_LMove c_LMove k_LMove
  have b_LMove := F_LMove.binds (ps := pLMove) fun _ _ _ _ _ _ us hl => match us, hl with | [_], _ => rfl
  have F_LStep := fun_mk (st := sLStep) l_LStep c_LStep k_LStep
  have b_LStep := F_LStep.binds (ps := pLStep) fun _ _ _ _ _ _ us hl => match us, hl with | [_], _ => rfl
  have F_LOdd := fun_mk (st := sLOdd) l_LOdd c_LOdd k_LOdd
  have b_LOdd := F_LOdd.binds (ps := pLOdd) fun _ _ _ _ _ _ us hl => match us, hl with | [_], _ => rfl
  have F_LPart := fun_mk (st := sLPart) l_LPart c_LPart k_LPart
  have b_LPart := F_LPart.binds (ps := pLPart) fun _ _ _ _ _ _ us hl => match us, hl with | [_, _], _ => rfl
  have F_Bent := fun_mk (st := sBent) l_Bent c_Bent k_Bent
  have b_Bent := F_Bent.binds (ps := pBent) fun _ _ _ _ _ _ us hl => match us, hl with | [_, _], _ => rfl
  have F_Right := fun_mk (st := sRight) l_Right c_Right k_Right
  have b_Right := F_Right.binds (ps := pRight) fun _ _ _ _ _ _ us hl => match us, hl with | [_], _ => rfl
  have F_Law := fun_mk (st := sLaw) l_Law c_Law k_Law
  have b_Law := F_Law.binds (ps := pLaw) fun _ _ _ _ _ _ us hl => match us, hl with | [_], _ => rfl
  have ie_History : PySem.W.kitOne K (.ref C_History) (.ref C_History) = some true := by
    unfold PySem.W.kitOne
    simp
  have cl_History : Cls K C_History := ⟨pg_History, hd_History, po_History, sa_History⟩
  have F_History_init : FunD K "__init__" "History.__init__" (defArgs sHInit) (defBody sHInit) (defScope sHInit) [V.ref e0_History_init, V.ref e1_History_init] [] f_History_init (PySem.W.fnOf "__init__" "History.__init__" (defArgs sHInit) (defBody sHInit) (defScope sHInit) (.ref T_History_init) kV_History_init dc_History_init pm_History_init an_History_init cd_History_init ct_History_init) := ⟨⟨_, _, _, _, _, _, _, _, _, _, rfl, l_History_init, c_History_init, .inr ⟨by simp, T_History_init, oT_History_init, [.ref e0_History_init, .ref e1_History_init], nT_History_init, rfl, lT_History_init, oT_d_History_init, .cons rfl (.cons rfl (.nil))⟩, .inl rfl⟩, k_History_init⟩
  obtain ⟨ds0_History_init, v0_History_init, b0_History_init⟩ := F_History_init.binds1 (ps := pHInit) 1 0 (by simp) rfl fun _ _ _ _ _ _ _ us its hu hi => match us, its, hu, hi with | [_], [_, _], _, _ => ⟨_, rfl, rfl⟩
  obtain ⟨ds1_History_init, v1_History_init, b1_History_init⟩ := F_History_init.binds1 (ps := pHInit) 2 1 (by simp) rfl fun _ _ _ _ _ _ _ us its hu hi => match us, its, hu, hi with | [_, _], [_, _], _, _ => ⟨_, rfl, rfl⟩
  obtain ⟨ds2_History_init, v2_History_init, b2_History_init⟩ := F_History_init.binds1 (ps := pHInit) 3 2 (by simp) rfl fun _ _ _ _ _ _ _ us its hu hi => match us, its, hu, hi with | [_, _, _], [_, _], _, _ => ⟨_, rfl, rfl⟩
  have F_History_line : FunD K "line" "History.line" (defArgs sHLine) (defBody sHLine) (defScope sHLine) [] [] f_History_line (PySem.W.fnOf "line" "History.line" (defArgs sHLine) (defBody sHLine) (defScope sHLine) .none kV_History_line dc_History_line pm_History_line an_History_line cd_History_line ct_History_line) := ⟨⟨_, _, _, _, _, _, _, _, _, _, rfl, l_History_line, c_History_line, .inl ⟨rfl, rfl⟩, .inl rfl⟩, k_History_line⟩
  have b_History_line : Binds K (PySem.W.fnOf "line" "History.line" (defArgs sHLine) (defBody sHLine) (defScope sHLine) .none kV_History_line dc_History_line pm_History_line an_History_line cd_History_line ct_History_line) pHLine [] := F_History_line.bindsN fun _ _ _ _ _ _ us hl => match us, hl with | [_], _ => rfl
  have F_History_do : FunD K "do" "History.do" (defArgs sHDo) (defBody sHDo) (defScope sHDo) [] [] f_History_do (PySem.W.fnOf "do" "History.do" (defArgs sHDo) (defBody sHDo) (defScope sHDo) .none kV_History_do dc_History_do pm_History_do an_History_do cd_History_do ct_History_do) := ⟨⟨_, _, _, _, _, _, _, _, _, _, rfl, l_History_do, c_History_do, .inl ⟨rfl, rfl⟩, .inl rfl⟩, k_History_do⟩
  have b_History_do : Binds K (PySem.W.fnOf "do" "History.do" (defArgs sHDo) (defBody sHDo) (defScope sHDo) .none kV_History_do dc_History_do pm_History_do an_History_do cd_History_do ct_History_do) pHDo [] := F_History_do.bindsN fun _ _ _ _ _ _ us hl => match us, hl with | [_, _], _ => rfl
  have F_History_undo : FunD K "undo" "History.undo" (defArgs sHUndo) (defBody sHUndo) (defScope sHUndo) [V.int 1] [] f_History_undo (PySem.W.fnOf "undo" "History.undo" (defArgs sHUndo) (defBody sHUndo) (defScope sHUndo) (.ref T_History_undo) kV_History_undo dc_History_undo pm_History_undo an_History_undo cd_History_undo ct_History_undo) := ⟨⟨_, _, _, _, _, _, _, _, _, _, rfl, l_History_undo, c_History_undo, .inr ⟨by simp, T_History_undo, oT_History_undo, [.int 1 w0_History_undo], nT_History_undo, rfl, lT_History_undo, oT_d_History_undo, .cons ⟨_, rfl⟩ (.nil)⟩, .inl rfl⟩, k_History_undo⟩
  have b_History_undo : Binds K (PySem.W.fnOf "undo" "History.undo" (defArgs sHUndo) (defBody sHUndo) (defScope sHUndo) (.ref T_History_undo) kV_History_undo dc_History_undo pm_History_undo an_History_undo cd_History_undo ct_History_undo) pHUndo [] := by
    obtain ⟨ds, v, b⟩ := F_History_undo.binds1 (ps := pHUndo) 2 1 (by simp) rfl fun _ _ _ _ _ _ _ us its hu hi => match us, its, hu, hi with | [_, _], [_], _, _ => ⟨_, rfl, rfl⟩
    cases v
    exact b
  obtain ⟨ds0_History_undo, v0_History_undo, b0_History_undo⟩ := F_History_undo.binds1 (ps := pHUndo) 1 0 (by simp) rfl fun _ _ _ _ _ _ _ us its hu hi => match us, its, hu, hi with | [_], [_], _, _ => ⟨_, rfl, rfl⟩
  have F_History_redo : FunD K "redo" "History.redo" (defArgs sHRedo) (defBody sHRedo) (defScope sHRedo) [V.int 1] [] f_History_redo (PySem.W.fnOf "redo" "History.redo" (defArgs sHRedo) (defBody sHRedo) (defScope sHRedo) (.ref T_History_redo) kV_History_redo dc_History_redo pm_History_redo an_History_redo cd_History_redo ct_History_redo) := ⟨⟨_, _, _, _, _, _, _, _, _, _, rfl, l_History_redo, c_History_redo, .inr ⟨by simp, T_History_redo, oT_History_redo, [.int 1 w0_History_redo], nT_History_redo, rfl, lT_History_redo, oT_d_History_redo, .cons ⟨_, rfl⟩ (.nil)⟩, .inl rfl⟩, k_History_redo⟩
  have b_History_redo : Binds K (PySem.W.fnOf "redo" "History.redo" (defArgs sHRedo) (defBody sHRedo) (defScope sHRedo) (.ref T_History_redo) kV_History_redo dc_History_redo pm_History_redo an_History_redo cd_History_redo ct_History_redo) pHRedo [] := by
    obtain ⟨ds, v, b⟩ := F_History_redo.binds1 (ps := pHRedo) 2 1 (by simp) rfl fun _ _ _ _ _ _ _ us its hu hi => match us, its, hu, hi with | [_, _], [_], _, _ => ⟨_, rfl, rfl⟩
    cases v
    exact b
  obtain ⟨ds0_History_redo, v0_History_redo, b0_History_redo⟩ := F_History_redo.binds1 (ps := pHRedo) 1 0 (by simp) rfl fun _ _ _ _ _ _ _ us its hu hi => match us, its, hu, hi with | [_], [_], _, _ => ⟨_, rfl, rfl⟩
  have F_History_eq : FunD K "__eq__" "History.__eq__" (defArgs sHEq) (defBody sHEq) (defScope sHEq) [] [] f_History_eq (PySem.W.fnOf "__eq__" "History.__eq__" (defArgs sHEq) (defBody sHEq) (defScope sHEq) .none kV_History_eq dc_History_eq pm_History_eq an_History_eq cd_History_eq ct_History_eq) := ⟨⟨_, _, _, _, _, _, _, _, _, _, rfl, l_History_eq, c_History_eq, .inl ⟨rfl, rfl⟩, .inl rfl⟩, k_History_eq⟩
  have b_History_eq : Binds K (PySem.W.fnOf "__eq__" "History.__eq__" (defArgs sHEq) (defBody sHEq) (defScope sHEq) .none kV_History_eq dc_History_eq pm_History_eq an_History_eq cd_History_eq ct_History_eq) pHEq [] := F_History_eq.bindsN fun _ _ _ _ _ _ us hl => match us, hl with | [_, _], _ => rfl
  have F_History_str : FunD K "__str__" "History.__str__" (defArgs sHStr) (defBody sHStr) (defScope sHStr) [] [] f_History_str (PySem.W.fnOf "__str__" "History.__str__" (defArgs sHStr) (defBody sHStr) (defScope sHStr) .none kV_History_str dc_History_str pm_History_str an_History_str cd_History_str ct_History_str) := ⟨⟨_, _, _, _, _, _, _, _, _, _, rfl, l_History_str, c_History_str, .inl ⟨rfl, rfl⟩, .inl rfl⟩, k_History_str⟩
  have b_History_str : Binds K (PySem.W.fnOf "__str__" "History.__str__" (defArgs sHStr) (defBody sHStr) (defScope sHStr) .none kV_History_str dc_History_str pm_History_str an_History_str cd_History_str ct_History_str) pHStr [] := F_History_str.bindsN fun _ _ _ _ _ _ us hl => match us, hl with | [_], _ => rfl
  have F_History_of : FunS K "of" "History.of" sHOf ["cls"] "names" f_History_of := ⟨⟨_, _, _, _, _, _, _, _, _, _, l_History_of, c_History_of, StX.bind_star1 (B := fun us => bindArgs (PySem.W.fnOf "of" "History.of" (defArgs sHOf) (defBody sHOf) (defScope sHOf) .none kV_History_of dc_History_of pm_History_of an_History_of cd_History_of ct_History_of) ⟨us, []⟩) (fun a => rfl) (fun a r rs => rfl)⟩, k_History_of⟩
  have ie_Program : PySem.W.kitOne K (.ref C_Program) (.ref C_Program) = some true := by
    unfold PySem.W.kitOne
    simp
  have cl_Program : Cls K C_Program := ⟨pg_Program, hd_Program, po_Program, sa_Program⟩
  have F_Program_init : FunSK K "__init__" "Program.__init__" sPInit ["self"] "joined" "commands" (V.ref e0_Program_init) f_Program_init := ⟨⟨_, _, _, _, D_Program_init, _, _, _, _, _, l_Program_init, c_Program_init, kq_Program_init, rfl, bindK1 (B := fun us => bindArgs (PySem.W.fnOf "__init__" "Program.__init__" (defArgs sPInit) (defBody sPInit) (defScope sPInit) .none (.ref D_Program_init) dc_Program_init pm_Program_init an_Program_init cd_Program_init ct_Program_init) ⟨us, []⟩) (fun a => ⟨_, _, _, _, _, _, rfl, rfl, rfl⟩) (fun a r rs => ⟨_, _, _, _, _, _, rfl, rfl, rfl⟩), bindK1w (B := fun us v => bindArgs (PySem.W.fnOf "__init__" "Program.__init__" (defArgs sPInit) (defBody sPInit) (defScope sPInit) .none (.ref D_Program_init) dc_Program_init pm_Program_init an_Program_init cd_Program_init ct_Program_init) ⟨us, [("joined", v)]⟩) (fun a v => rfl)⟩, k_Program_init⟩
  have F_Program_read : FunD K "read" "Program.read" (defArgs sPRead) (defBody sPRead) (defScope sPRead) [] [] f_Program_read (PySem.W.fnOf "read" "Program.read" (defArgs sPRead) (defBody sPRead) (defScope sPRead) .none kV_Program_read dc_Program_read pm_Program_read an_Program_read cd_Program_read ct_Program_read) := ⟨⟨_, _, _, _, _, _, _, _, _, _, rfl, l_Program_read, c_Program_read, .inl ⟨rfl, rfl⟩, .inl rfl⟩, k_Program_read⟩
  have b_Program_read : Binds K (PySem.W.fnOf "read" "Program.read" (defArgs sPRead) (defBody sPRead) (defScope sPRead) .none kV_Program_read dc_Program_read pm_Program_read an_Program_read cd_Program_read ct_Program_read) pPRead [] := F_Program_read.bindsN fun _ _ _ _ _ _ us hl => match us, hl with | [_, _], _ => rfl
  have F_Program_is_command : FunD K "is_command" "Program.is_command" (defArgs sIsCmd) (defBody sIsCmd) (defScope sIsCmd) [] [] f_Program_is_command (PySem.W.fnOf "is_command" "Program.is_command" (defArgs sIsCmd) (defBody sIsCmd) (defScope sIsCmd) .none kV_Program_is_command dc_Program_is_command pm_Program_is_command an_Program_is_command cd_Program_is_command ct_Program_is_command) := ⟨⟨_, _, _, _, _, _, _, _, _, _, rfl, l_Program_is_command, c_Program_is_command, .inl ⟨rfl, rfl⟩, .inl rfl⟩, k_Program_is_command⟩
  have b_Program_is_command : Binds K (PySem.W.fnOf "is_command" "Program.is_command" (defArgs sIsCmd) (defBody sIsCmd) (defScope sIsCmd) .none kV_Program_is_command dc_Program_is_command pm_Program_is_command an_Program_is_command cd_Program_is_command ct_Program_is_command) pIsCmd [] := F_Program_is_command.bindsN fun _ _ _ _ _ _ us hl => match us, hl with | [_], _ => rfl
  have kb_Program_is_command : KBinds K (PySem.W.fnOf "is_command" "Program.is_command" (defArgs sIsCmd) (defBody sIsCmd) (defScope sIsCmd) .none kV_Program_is_command dc_Program_is_command pm_Program_is_command an_Program_is_command cd_Program_is_command ct_Program_is_command) pIsCmd ["value"] (gK 0 1) (gK 0 1) := kb0 F_Program_is_command 0 (by simp) fun _ _ _ _ _ _ us ws hu hw => match us, ws, hu, hw with | [], [_], _, _ => rfl
  have F_Program_len : FunD K "__len__" "Program.__len__" (defArgs sPLen) (defBody sPLen) (defScope sPLen) [] [] f_Program_len (PySem.W.fnOf "__len__" "Program.__len__" (defArgs sPLen) (defBody sPLen) (defScope sPLen) .none kV_Program_len dc_Program_len pm_Program_len an_Program_len cd_Program_len ct_Program_len) := ⟨⟨_, _, _, _, _, _, _, _, _, _, rfl, l_Program_len, c_Program_len, .inl ⟨rfl, rfl⟩, .inl rfl⟩, k_Program_len⟩
  have b_Program_len : Binds K (PySem.W.fnOf "__len__" "Program.__len__" (defArgs sPLen) (defBody sPLen) (defScope sPLen) .none kV_Program_len dc_Program_len pm_Program_len an_Program_len cd_Program_len ct_Program_len) pPLen [] := F_Program_len.bindsN fun _ _ _ _ _ _ us hl => match us, hl with | [_], _ => rfl
  have F_Program_eq : FunD K "__eq__" "Program.__eq__" (defArgs sPEq) (defBody sPEq) (defScope sPEq) [] [] f_Program_eq (PySem.W.fnOf "__eq__" "Program.__eq__" (defArgs sPEq) (defBody sPEq) (defScope sPEq) .none kV_Program_eq dc_Program_eq pm_Program_eq an_Program_eq cd_Program_eq ct_Program_eq) := ⟨⟨_, _, _, _, _, _, _, _, _, _, rfl, l_Program_eq, c_Program_eq, .inl ⟨rfl, rfl⟩, .inl rfl⟩, k_Program_eq⟩
  have b_Program_eq : Binds K (PySem.W.fnOf "__eq__" "Program.__eq__" (defArgs sPEq) (defBody sPEq) (defScope sPEq) .none kV_Program_eq dc_Program_eq pm_Program_eq an_Program_eq cd_Program_eq ct_Program_eq) pPEq [] := F_Program_eq.bindsN fun _ _ _ _ _ _ us hl => match us, hl with | [_, _], _ => rfl
  have F_Program_str : FunD K "__str__" "Program.__str__" (defArgs sPStr) (defBody sPStr) (defScope sPStr) [] [] f_Program_str (PySem.W.fnOf "__str__" "Program.__str__" (defArgs sPStr) (defBody sPStr) (defScope sPStr) .none kV_Program_str dc_Program_str pm_Program_str an_Program_str cd_Program_str ct_Program_str) := ⟨⟨_, _, _, _, _, _, _, _, _, _, rfl, l_Program_str, c_Program_str, .inl ⟨rfl, rfl⟩, .inl rfl⟩, k_Program_str⟩
  have b_Program_str : Binds K (PySem.W.fnOf "__str__" "Program.__str__" (defArgs sPStr) (defBody sPStr) (defScope sPStr) .none kV_Program_str dc_Program_str pm_Program_str an_Program_str cd_Program_str ct_Program_str) pPStr [] := F_Program_str.bindsN fun _ _ _ _ _ _ us hl => match us, hl with | [_], _ => rfl
  have F_Program_repr : FunD K "__repr__" "Program.__repr__" (defArgs sPRepr) (defBody sPRepr) (defScope sPRepr) [] [] f_Program_repr (PySem.W.fnOf "__repr__" "Program.__repr__" (defArgs sPRepr) (defBody sPRepr) (defScope sPRepr) .none kV_Program_repr dc_Program_repr pm_Program_repr an_Program_repr cd_Program_repr ct_Program_repr) := ⟨⟨_, _, _, _, _, _, _, _, _, _, rfl, l_Program_repr, c_Program_repr, .inl ⟨rfl, rfl⟩, .inl rfl⟩, k_Program_repr⟩
  have b_Program_repr : Binds K (PySem.W.fnOf "__repr__" "Program.__repr__" (defArgs sPRepr) (defBody sPRepr) (defScope sPRepr) .none kV_Program_repr dc_Program_repr pm_Program_repr an_Program_repr cd_Program_repr ct_Program_repr) pPRepr [] := F_Program_repr.bindsN fun _ _ _ _ _ _ us hl => match us, hl with | [_], _ => rfl
  let T : TX K mg := {
    f_is_integer := f_IsInt
    fd_is_integer := PySem.W.fnOf "is_integer" "is_integer" (defArgs sIsInt) (defBody sIsInt) (defScope sIsInt) .none kV_IsInt dc_IsInt pm_IsInt an_IsInt cd_IsInt ct_IsInt
    d_is_integer := ⟨F_IsInt, PySem.W.mg_of X G a_IsInt, b_IsInt⟩
    f_is_name := f_IsName
    fd_is_name := PySem.W.fnOf "is_name" "is_name" (defArgs sIsName) (defBody sIsName) (defScope sIsName) .none kV_IsName dc_IsName pm_IsName an_IsName cd_IsName ct_IsName
    d_is_name := ⟨F_IsName, PySem.W.mg_of X G a_IsName, b_IsName⟩
    f_is_amount := f_IsAm
    fd_is_amount := PySem.W.fnOf "is_amount" "is_amount" (defArgs sIsAm) (defBody sIsAm) (defScope sIsAm) .none kV_IsAm dc_IsAm pm_IsAm an_IsAm cd_IsAm ct_IsAm
    d_is_amount := ⟨F_IsAm, PySem.W.mg_of X G a_IsAm, b_IsAm⟩
    f_check_name := f_ChName
    fd_check_name := PySem.W.fnOf "check_name" "check_name" (defArgs sChName) (defBody sChName) (defScope sChName) .none kV_ChName dc_ChName pm_ChName an_ChName cd_ChName ct_ChName
    d_check_name := ⟨F_ChName, PySem.W.mg_of X G a_ChName, b_ChName⟩
    f_check_names := f_ChNames
    fd_check_names := PySem.W.fnOf "check_names" "check_names" (defArgs sChNames) (defBody sChNames) (defScope sChNames) .none kV_ChNames dc_ChNames pm_ChNames an_ChNames cd_ChNames ct_ChNames
    d_check_names := ⟨F_ChNames, PySem.W.mg_of X G a_ChNames, b_ChNames⟩
    f_check_amount := f_ChAm
    fd_check_amount := PySem.W.fnOf "check_amount" "check_amount" (defArgs sChAm) (defBody sChAm) (defScope sChAm) .none kV_ChAm dc_ChAm pm_ChAm an_ChAm cd_ChAm ct_ChAm
    d_check_amount := ⟨F_ChAm, PySem.W.mg_of X G a_ChAm, b_ChAm⟩
    f_number_moved := f_Moved
    fd_number_moved := PySem.W.fnOf "number_moved" "number_moved" (defArgs sMoved) (defBody sMoved) (defScope sMoved) .none kV_Moved dc_Moved pm_Moved an_Moved cd_Moved ct_Moved
    d_number_moved := ⟨F_Moved, PySem.W.mg_of X G a_Moved, b_Moved⟩
    f_history_with := f_HWith
    fd_history_with := PySem.W.fnOf "history_with" "history_with" (defArgs sHWith) (defBody sHWith) (defScope sHWith) .none kV_HWith dc_HWith pm_HWith an_HWith cd_HWith ct_HWith
    d_history_with := ⟨F_HWith, PySem.W.mg_of X G a_HWith, b_HWith⟩
    f_check_history := f_ChHist
    fd_check_history := PySem.W.fnOf "check_history" "check_history" (defArgs sChHist) (defBody sChHist) (defScope sChHist) .none kV_ChHist dc_ChHist pm_ChHist an_ChHist cd_ChHist ct_ChHist
    d_check_history := ⟨F_ChHist, PySem.W.mg_of X G a_ChHist, b_ChHist⟩
    f_is_step := f_IsStep
    fd_is_step := PySem.W.fnOf "is_step" "is_step" (defArgs sIsStep) (defBody sIsStep) (defScope sIsStep) .none kV_IsStep dc_IsStep pm_IsStep an_IsStep cd_IsStep ct_IsStep
    d_is_step := ⟨F_IsStep, PySem.W.mg_of X G a_IsStep, b_IsStep⟩
    f_is_repeat := f_IsRep
    fd_is_repeat := PySem.W.fnOf "is_repeat" "is_repeat" (defArgs sIsRep) (defBody sIsRep) (defScope sIsRep) .none kV_IsRep dc_IsRep pm_IsRep an_IsRep cd_IsRep ct_IsRep
    d_is_repeat := ⟨F_IsRep, PySem.W.mg_of X G a_IsRep, b_IsRep⟩
    f_command_text := f_CmdTx
    fd_command_text := PySem.W.fnOf "command_text" "command_text" (defArgs sCmdTx) (defBody sCmdTx) (defScope sCmdTx) .none kV_CmdTx dc_CmdTx pm_CmdTx an_CmdTx cd_CmdTx ct_CmdTx
    d_command_text := ⟨F_CmdTx, PySem.W.mg_of X G a_CmdTx, b_CmdTx⟩
    f_place_after_steps := f_PSteps
    fd_place_after_steps := PySem.W.fnOf "place_after_steps" "place_after_steps" (defArgs sPSteps) (defBody sPSteps) (defScope sPSteps) .none kV_PSteps dc_PSteps pm_PSteps an_PSteps cd_PSteps ct_PSteps
    d_place_after_steps := ⟨F_PSteps, PySem.W.mg_of X G a_PSteps, b_PSteps⟩
    f_shift_of_steps := f_Shift
    fd_shift_of_steps := PySem.W.fnOf "shift_of_steps" "shift_of_steps" (defArgs sShift) (defBody sShift) (defScope sShift) .none kV_Shift dc_Shift pm_Shift an_Shift cd_Shift ct_Shift
    d_shift_of_steps := ⟨F_Shift, PySem.W.mg_of X G a_Shift, b_Shift⟩
    f_place_after_repeat := f_PRep
    fd_place_after_repeat := PySem.W.fnOf "place_after_repeat" "place_after_repeat" (defArgs sPRep) (defBody sPRep) (defScope sPRep) .none kV_PRep dc_PRep pm_PRep an_PRep cd_PRep ct_PRep
    d_place_after_repeat := ⟨F_PRep, PySem.W.mg_of X G a_PRep, b_PRep⟩
    f_place_after := f_PAft
    fd_place_after := PySem.W.fnOf "place_after" "place_after" (defArgs sPAft) (defBody sPAft) (defScope sPAft) .none kV_PAft dc_PAft pm_PAft an_PAft cd_PAft ct_PAft
    d_place_after := ⟨F_PAft, PySem.W.mg_of X G a_PAft, b_PAft⟩
    f_number_in := f_NumIn
    fd_number_in := PySem.W.fnOf "number_in" "number_in" (defArgs sNumIn) (defBody sNumIn) (defScope sNumIn) .none kV_NumIn dc_NumIn pm_NumIn an_NumIn cd_NumIn ct_NumIn
    d_number_in := ⟨F_NumIn, PySem.W.mg_of X G a_NumIn, b_NumIn⟩
    f_step_in := f_StepIn
    fd_step_in := PySem.W.fnOf "step_in" "step_in" (defArgs sStepIn) (defBody sStepIn) (defScope sStepIn) .none kV_StepIn dc_StepIn pm_StepIn an_StepIn cd_StepIn ct_StepIn
    d_step_in := ⟨F_StepIn, PySem.W.mg_of X G a_StepIn, b_StepIn⟩
    f_repeat_in := f_RepIn
    fd_repeat_in := PySem.W.fnOf "repeat_in" "repeat_in" (defArgs sRepIn) (defBody sRepIn) (defScope sRepIn) .none kV_RepIn dc_RepIn pm_RepIn an_RepIn cd_RepIn ct_RepIn
    d_repeat_in := ⟨F_RepIn, PySem.W.mg_of X G a_RepIn, b_RepIn⟩
    f_command_in := f_CmdIn
    fd_command_in := PySem.W.fnOf "command_in" "command_in" (defArgs sCmdIn) (defBody sCmdIn) (defScope sCmdIn) .none kV_CmdIn dc_CmdIn pm_CmdIn an_CmdIn cd_CmdIn ct_CmdIn
    d_command_in := ⟨F_CmdIn, PySem.W.mg_of X G a_CmdIn, b_CmdIn⟩
    f_program_of := f_POf
    fd_program_of := PySem.W.fnOf "program_of" "program_of" (defArgs sPOf) (defBody sPOf) (defScope sPOf) .none kV_POf dc_POf pm_POf an_POf cd_POf ct_POf
    d_program_of := ⟨F_POf, PySem.W.mg_of X G a_POf, b_POf⟩
    f_check_program := f_ChProg
    fd_check_program := PySem.W.fnOf "check_program" "check_program" (defArgs sChProg) (defBody sChProg) (defScope sChProg) .none kV_ChProg dc_ChProg pm_ChProg an_ChProg cd_ChProg ct_ChProg
    d_check_program := ⟨F_ChProg, PySem.W.mg_of X G a_ChProg, b_ChProg⟩
    f_law_cell := f_Cell
    fd_law_cell := PySem.W.fnOf "_law_cell" "_law_cell" (defArgs sCell) (defBody sCell) (defScope sCell) .none kV_Cell dc_Cell pm_Cell an_Cell cd_Cell ct_Cell
    d_law_cell := ⟨F_Cell, PySem.W.mg_of X G a_Cell, b_Cell⟩
    f_law_pool := f_Pool
    fd_law_pool := PySem.W.fnOf "_law_pool" "_law_pool" (defArgs sPool) (defBody sPool) (defScope sPool) .none kV_Pool dc_Pool pm_Pool an_Pool cd_Pool ct_Pool
    d_law_pool := ⟨F_Pool, PySem.W.mg_of X G a_Pool, b_Pool⟩
    f_law_draw := f_Draw
    fd_law_draw := PySem.W.fnOf "_law_draw" "_law_draw" (defArgs sDraw) (defBody sDraw) (defScope sDraw) .none kV_Draw dc_Draw pm_Draw an_Draw cd_Draw ct_Draw
    d_law_draw := ⟨F_Draw, PySem.W.mg_of X G a_Draw, b_Draw⟩
    f_law_calls := f_Calls
    fd_law_calls := PySem.W.fnOf "_law_calls" "_law_calls" (defArgs sCalls) (defBody sCalls) (defScope sCalls) .none kV_Calls dc_Calls pm_Calls an_Calls cd_Calls ct_Calls
    d_law_calls := ⟨F_Calls, PySem.W.mg_of X G a_Calls, b_Calls⟩
    f_law_amount := f_Amnt
    fd_law_amount := PySem.W.fnOf "_law_amount" "_law_amount" (defArgs sAmnt) (defBody sAmnt) (defScope sAmnt) .none kV_Amnt dc_Amnt pm_Amnt an_Amnt cd_Amnt ct_Amnt
    d_law_amount := ⟨F_Amnt, PySem.W.mg_of X G a_Amnt, b_Amnt⟩
    f_law_moves := f_Moves
    fd_law_moves := PySem.W.fnOf "_law_moves" "_law_moves" (defArgs sMoves) (defBody sMoves) (defScope sMoves) .none kV_Moves dc_Moves pm_Moves an_Moves cd_Moves ct_Moves
    d_law_moves := ⟨F_Moves, PySem.W.mg_of X G a_Moves, b_Moves⟩
    f_law_steps := f_Steps
    fd_law_steps := PySem.W.fnOf "_law_steps" "_law_steps" (defArgs sSteps) (defBody sSteps) (defScope sSteps) .none kV_Steps dc_Steps pm_Steps an_Steps cd_Steps ct_Steps
    d_law_steps := ⟨F_Steps, PySem.W.mg_of X G a_Steps, b_Steps⟩
    f_law_is_whole := f_LWhole
    fd_law_is_whole := PySem.W.fnOf "_law_is_whole" "_law_is_whole" (defArgs sLWhole) (defBody sLWhole) (defScope sLWhole) .none kV_LWhole dc_LWhole pm_LWhole an_LWhole cd_LWhole ct_LWhole
    d_law_is_whole := ⟨F_LWhole, PySem.W.mg_of X G a_LWhole, b_LWhole⟩
    f_law_is_call := f_LCall
    fd_law_is_call := PySem.W.fnOf "_law_is_call" "_law_is_call" (defArgs sLCall) (defBody sLCall) (defScope sLCall) .none kV_LCall dc_LCall pm_LCall an_LCall cd_LCall ct_LCall
    d_law_is_call := ⟨F_LCall, PySem.W.mg_of X G a_LCall, b_LCall⟩
    f_law_is_move := f_LMove
    fd_law_is_move := PySem.W.fnOf "_law_is_move" "_law_is_move" (defArgs sLMove) (defBody sLMove) (defScope sLMove) .none kV_LMove dc_LMove pm_LMove an_LMove cd_LMove ct_LMove
    d_law_is_move := ⟨F_LMove, PySem.W.mg_of X G a_LMove, b_LMove⟩
    f_law_is_step := f_LStep
    fd_law_is_step := PySem.W.fnOf "_law_is_step" "_law_is_step" (defArgs sLStep) (defBody sLStep) (defScope sLStep) .none kV_LStep dc_LStep pm_LStep an_LStep cd_LStep ct_LStep
    d_law_is_step := ⟨F_LStep, PySem.W.mg_of X G a_LStep, b_LStep⟩
    f_law_odd := f_LOdd
    fd_law_odd := PySem.W.fnOf "_law_odd" "_law_odd" (defArgs sLOdd) (defBody sLOdd) (defScope sLOdd) .none kV_LOdd dc_LOdd pm_LOdd an_LOdd cd_LOdd ct_LOdd
    d_law_odd := ⟨F_LOdd, PySem.W.mg_of X G a_LOdd, b_LOdd⟩
    f_law_part := f_LPart
    fd_law_part := PySem.W.fnOf "_law_part" "_law_part" (defArgs sLPart) (defBody sLPart) (defScope sLPart) .none kV_LPart dc_LPart pm_LPart an_LPart cd_LPart ct_LPart
    d_law_part := ⟨F_LPart, PySem.W.mg_of X G a_LPart, b_LPart⟩
    f_law_bent := f_Bent
    fd_law_bent := PySem.W.fnOf "_law_bent" "_law_bent" (defArgs sBent) (defBody sBent) (defScope sBent) .none kV_Bent dc_Bent pm_Bent an_Bent cd_Bent ct_Bent
    d_law_bent := ⟨F_Bent, PySem.W.mg_of X G a_Bent, b_Bent⟩
    f_law_right := f_Right
    fd_law_right := PySem.W.fnOf "_law_right" "_law_right" (defArgs sRight) (defBody sRight) (defScope sRight) .none kV_Right dc_Right pm_Right an_Right cd_Right ct_Right
    d_law_right := ⟨F_Right, PySem.W.mg_of X G a_Right, b_Right⟩
    f_law := f_Law
    fd_law := PySem.W.fnOf "law" "law" (defArgs sLaw) (defBody sLaw) (defScope sLaw) .none kV_Law dc_Law pm_Law an_Law cd_Law ct_Law
    d_law := ⟨F_Law, PySem.W.mg_of X G a_Law, b_Law⟩
    abs := PySem.W.mg_none_of X G z_abs
    all := PySem.W.mg_none_of X G z_all
    any := PySem.W.mg_none_of X G z_any
    bool := PySem.W.mg_none_of X G z_bool
    divmod := PySem.W.mg_none_of X G z_divmod
    enumerate := PySem.W.mg_none_of X G z_enumerate
    int := PySem.W.mg_none_of X G z_int
    isinstance := PySem.W.mg_none_of X G z_isinstance
    len := PySem.W.mg_none_of X G z_len
    list := PySem.W.mg_none_of X G z_list
    max := PySem.W.mg_none_of X G z_max
    min := PySem.W.mg_none_of X G z_min
    range := PySem.W.mg_none_of X G z_range
    repr := PySem.W.mg_none_of X G z_repr
    str := PySem.W.mg_none_of X G z_str
    sum := PySem.W.mg_none_of X G z_sum
    tuple := PySem.W.mg_none_of X G z_tuple
    mLONGEST_NAME := ⟨_, PySem.W.mg_of X G a_LONGEST_NAME⟩
    mBEFORE_STEPS := ⟨_, PySem.W.mg_of X G a_BEFORE_STEPS⟩
    mAFTER_STEPS := ⟨_, PySem.W.mg_of X G a_AFTER_STEPS⟩
    C_History := C_History
    m_History := PySem.W.mg_of X G aC_History
    cl_History := cl_History
    is_History := ⟨cl_History, ia_History, in_History, it_History, im_History, ie_History⟩
    n_History_past := n_History_past
    n_History_future := n_History_future
    f_History_init := f_History_init
    fd_History_init := PySem.W.fnOf "__init__" "History.__init__" (defArgs sHInit) (defBody sHInit) (defScope sHInit) (.ref T_History_init) kV_History_init dc_History_init pm_History_init an_History_init cd_History_init ct_History_init
    F_History_init := F_History_init
    e0_History_init := e0_History_init
    t0_History_init := fun H => .inr ⟨_, _, _, le0_History_init, ce0_History_init, de0_History_init, Nat.zero_le _, .nil⟩
    e1_History_init := e1_History_init
    t1_History_init := fun H => .inr ⟨_, _, _, le1_History_init, ce1_History_init, de1_History_init, Nat.zero_le _, .nil⟩
    ds0_History_init := ds0_History_init
    v0_History_init := v0_History_init
    b0_History_init := b0_History_init
    ds1_History_init := ds1_History_init
    v1_History_init := v1_History_init
    b1_History_init := b1_History_init
    ds2_History_init := ds2_History_init
    v2_History_init := v2_History_init
    b2_History_init := b2_History_init
    mk_History := ⟨mk_History, ai_History_init, ii_History_init, kc_History⟩
    f_History_line := f_History_line
    fd_History_line := PySem.W.fnOf "line" "History.line" (defArgs sHLine) (defBody sHLine) (defScope sHLine) .none kV_History_line dc_History_line pm_History_line an_History_line cd_History_line ct_History_line
    F_History_line := F_History_line
    b_History_line := b_History_line
    q_History_line := q_History_line
    pr_History_line := ⟨qa_History_line, qg_History_line, qt_History_line, ⟨_, qr_History_line⟩⟩
    f_History_do := f_History_do
    fd_History_do := PySem.W.fnOf "do" "History.do" (defArgs sHDo) (defBody sHDo) (defScope sHDo) .none kV_History_do dc_History_do pm_History_do an_History_do cd_History_do ct_History_do
    F_History_do := F_History_do
    b_History_do := b_History_do
    me_History_do := ⟨me_History_do, mi_History_do, k_History_do⟩
    f_History_undo := f_History_undo
    fd_History_undo := PySem.W.fnOf "undo" "History.undo" (defArgs sHUndo) (defBody sHUndo) (defScope sHUndo) (.ref T_History_undo) kV_History_undo dc_History_undo pm_History_undo an_History_undo cd_History_undo ct_History_undo
    F_History_undo := F_History_undo
    ds0_History_undo := ds0_History_undo
    v0_History_undo := v0_History_undo
    b0_History_undo := b0_History_undo
    b_History_undo := b_History_undo
    me_History_undo := ⟨me_History_undo, mi_History_undo, k_History_undo⟩
    f_History_redo := f_History_redo
    fd_History_redo := PySem.W.fnOf "redo" "History.redo" (defArgs sHRedo) (defBody sHRedo) (defScope sHRedo) (.ref T_History_redo) kV_History_redo dc_History_redo pm_History_redo an_History_redo cd_History_redo ct_History_redo
    F_History_redo := F_History_redo
    ds0_History_redo := ds0_History_redo
    v0_History_redo := v0_History_redo
    b0_History_redo := b0_History_redo
    b_History_redo := b_History_redo
    me_History_redo := ⟨me_History_redo, mi_History_redo, k_History_redo⟩
    f_History_eq := f_History_eq
    fd_History_eq := PySem.W.fnOf "__eq__" "History.__eq__" (defArgs sHEq) (defBody sHEq) (defScope sHEq) .none kV_History_eq dc_History_eq pm_History_eq an_History_eq cd_History_eq ct_History_eq
    F_History_eq := F_History_eq
    b_History_eq := b_History_eq
    eo_History := ⟨me_History_eq, mi_History_eq, mn_History_eq, im_History⟩
    f_History_str := f_History_str
    fd_History_str := PySem.W.fnOf "__str__" "History.__str__" (defArgs sHStr) (defBody sHStr) (defScope sHStr) .none kV_History_str dc_History_str pm_History_str an_History_str cd_History_str ct_History_str
    F_History_str := F_History_str
    b_History_str := b_History_str
    st_History := ⟨me_History_str, mi_History_str⟩
    f_History_of := f_History_of
    F_History_of := F_History_of
    q_History_of := q_History_of
    cm_History_of := ⟨sa_History_of, ⟨_, sr_History_of⟩, fn_History_of⟩
    cr_History := ⟨rd_History, ga_History⟩
    C_Program := C_Program
    m_Program := PySem.W.mg_of X G aC_Program
    cl_Program := cl_Program
    is_Program := ⟨cl_Program, ia_Program, in_Program, it_Program, im_Program, ie_Program⟩
    kt_of_Program_tuple := kt_of_Program_tuple
    n_Program_commands := n_Program_commands
    n_Program___bool__ := n_Program___bool__
    f_Program_init := f_Program_init
    e0_Program_init := e0_Program_init
    t0_Program_init := fun H => .inr ⟨_, _, _, le0_Program_init, ce0_Program_init, de0_Program_init, Nat.zero_le _, .nil⟩
    F_Program_init := F_Program_init
    mk_Program := ⟨mk_Program, ai_Program_init, ii_Program_init, kc_Program⟩
    f_Program_read := f_Program_read
    fd_Program_read := PySem.W.fnOf "read" "Program.read" (defArgs sPRead) (defBody sPRead) (defScope sPRead) .none kV_Program_read dc_Program_read pm_Program_read an_Program_read cd_Program_read ct_Program_read
    F_Program_read := F_Program_read
    b_Program_read := b_Program_read
    q_Program_read := q_Program_read
    cm_Program_read := ⟨sa_Program_read, ⟨_, sr_Program_read⟩, fn_Program_read⟩
    f_Program_is_command := f_Program_is_command
    fd_Program_is_command := PySem.W.fnOf "is_command" "Program.is_command" (defArgs sIsCmd) (defBody sIsCmd) (defScope sIsCmd) .none kV_Program_is_command dc_Program_is_command pm_Program_is_command an_Program_is_command cd_Program_is_command ct_Program_is_command
    F_Program_is_command := F_Program_is_command
    b_Program_is_command := b_Program_is_command
    kb_Program_is_command := kb_Program_is_command
    si_Program_is_command := ⟨pg_Program, ic_Program, if_Program_is_command, iy_Program_is_command, ig_Program_is_command, ik_Program_is_command, by decide +kernel, ⟨_, sr_Program_is_command⟩, k_Program_is_command⟩
    q_Program_is_command := q_Program_is_command
    cs_Program_is_command := ⟨sa_Program_is_command, ⟨_, sr_Program_is_command⟩, k_Program_is_command⟩
    cr_Program := ⟨rd_Program, ga_Program⟩
    f_Program_len := f_Program_len
    fd_Program_len := PySem.W.fnOf "__len__" "Program.__len__" (defArgs sPLen) (defBody sPLen) (defScope sPLen) .none kV_Program_len dc_Program_len pm_Program_len an_Program_len cd_Program_len ct_Program_len
    F_Program_len := F_Program_len
    b_Program_len := b_Program_len
    ln_Program := ⟨me_Program_len, mi_Program_len⟩
    f_Program_eq := f_Program_eq
    fd_Program_eq := PySem.W.fnOf "__eq__" "Program.__eq__" (defArgs sPEq) (defBody sPEq) (defScope sPEq) .none kV_Program_eq dc_Program_eq pm_Program_eq an_Program_eq cd_Program_eq ct_Program_eq
    F_Program_eq := F_Program_eq
    b_Program_eq := b_Program_eq
    eo_Program := ⟨me_Program_eq, mi_Program_eq, mn_Program_eq, im_Program⟩
    f_Program_str := f_Program_str
    fd_Program_str := PySem.W.fnOf "__str__" "Program.__str__" (defArgs sPStr) (defBody sPStr) (defScope sPStr) .none kV_Program_str dc_Program_str pm_Program_str an_Program_str cd_Program_str ct_Program_str
    F_Program_str := F_Program_str
    b_Program_str := b_Program_str
    st_Program := ⟨me_Program_str, mi_Program_str⟩
    f_Program_repr := f_Program_repr
    fd_Program_repr := PySem.W.fnOf "__repr__" "Program.__repr__" (defArgs sPRepr) (defBody sPRepr) (defScope sPRepr) .none kV_Program_repr dc_Program_repr pm_Program_repr an_Program_repr cd_Program_repr ct_Program_repr
    F_Program_repr := F_Program_repr
    b_Program_repr := b_Program_repr
    rp_Program := ⟨me_Program_repr, mi_Program_repr⟩ }
  exact ⟨PySem.W.fnOf "law" "law" (defArgs sLaw) (defBody sLaw) (defScope sLaw) .none kV_Law dc_Law pm_Law an_Law cd_Law ct_Law, fun s v => .of_eq rfl, fun base _ _ => ok_law (P := l.prog) (w := w) (base := base) T⟩

end Und
open PySem PySem.W PyProof.Rows
set_option maxHeartbeats 0 in
theorem PySem.Challenge.cw_undotables_k07_commands_of_any_value_holds : PySem.Challenge.rw_undotables_k07_commands_of_any_value.Holds := by
  w_on; o_law; k_head; (case hw => w_witness2)
  k_fill
  refine Und.walk_ofG (l := PySem.Challenge.rw_undotables_k07_commands_of_any_value) (n := 63) (k := 16) (x := "_law_script") (CX := fun _ => L2.CX0) (sp := fun w => Und.spLaw _) rfl (by decide) rfl ⟨rfl, by decide, by decide⟩ (fun w h Y => PySem.W.kIn_of Y) ?F (fun _ _ a ns hl hb _ hS => ⟨a, ns, rfl, hS, hl, fun _ => rfl⟩) (fun _ _ _ _ _ h => h)
  case F =>
    intro w mg fa h KX G hmg
    refine' Und.all_mk KX G hmg ?a_IsInt ?l_IsInt ?c_IsInt ?k_IsInt ?a_IsName ?l_IsName ?c_IsName ?k_IsName ?a_IsAm ?l_IsAm ?c_IsAm ?k_IsAm ?a_ChName ?l_ChName ?c_ChName ?k_ChName ?a_ChNames ?l_ChNames ?c_ChNames ?k_ChNames ?a_ChAm ?l_ChAm ?c_ChAm ?k_ChAm ?a_Moved ?l_Moved ?c_Moved ?k_Moved ?a_HWith ?l_HWith ?c_HWith ?k_HWith ?a_ChHist ?l_ChHist ?c_ChHist ?k_ChHist ?a_IsStep ?l_IsStep ?c_IsStep ?k_IsStep ?a_IsRep ?l_IsRep ?c_IsRep ?k_IsRep ?a_CmdTx ?l_CmdTx ?c_CmdTx ?k_CmdTx ?a_PSteps ?l_PSteps ?c_PSteps ?k_PSteps ?a_Shift ?l_Shift ?c_Shift ?k_Shift ?a_PRep ?l_PRep ?c_PRep ?k_PRep ?a_PAft ?l_PAft ?c_PAft ?k_PAft ?a_NumIn ?l_NumIn ?c_NumIn ?k_NumIn ?a_StepIn ?l_StepIn ?c_StepIn ?k_StepIn ?a_RepIn ?l_RepIn ?c_RepIn ?k_RepIn ?a_CmdIn ?l_CmdIn ?c_CmdIn ?k_CmdIn ?a_POf ?l_POf ?c_POf ?k_POf ?a_ChProg ?l_ChProg ?c_ChProg ?k_ChProg ?a_Cell ?l_Cell ?c_Cell ?k_Cell ?a_Pool ?l_Pool ?c_Pool ?k_Pool ?a_Draw ?l_Draw ?c_Draw ?k_Draw ?a_Calls ?l_Calls ?c_Calls ?k_Calls ?a_Amnt ?l_Amnt ?c_Amnt ?k_Amnt ?a_Moves ?l_Moves ?c_Moves ?k_Moves ?a_Steps ?l_Steps ?c_Steps ?k_Steps ?a_LWhole ?l_LWhole ?c_LWhole ?k_LWhole ?a_LCall ?l_LCall ?c_LCall ?k_LCall ?a_LMove ?l_LMove ?c_LMove ?k_LMove ?a_LStep ?l_LStep ?c_LStep ?k_LStep ?a_LOdd ?l_LOdd ?c_LOdd ?k_LOdd ?a_LPart ?l_LPart ?c_LPart ?k_LPart ?a_Bent ?l_Bent ?c_Bent ?k_Bent ?a_Right ?l_Right ?c_Right ?k_Right ?a_Law ?l_Law ?c_Law ?k_Law ?z_abs ?z_all ?z_any ?z_bool ?z_divmod ?z_enumerate ?z_int ?z_isinstance ?z_len ?z_list ?z_max ?z_min ?z_range ?z_repr ?z_str ?z_sum ?z_tuple ?a_LONGEST_NAME ?a_BEFORE_STEPS ?a_AFTER_STEPS ?aC_History ?pg_History ?hd_History ?po_History ?sa_History ?mk_History ?kc_History ?ia_History ?in_History ?it_History ?im_History ?n_History_past ?n_History_future ?ai_History_init ?l_History_init ?c_History_init ?k_History_init ?lT_History_init ?oT_d_History_init ?le0_History_init ?ce0_History_init ?de0_History_init ?le1_History_init ?ce1_History_init ?de1_History_init ?ii_History_init ?qa_History_line ?qr_History_line ?l_History_line ?c_History_line ?k_History_line ?qg_History_line ?qt_History_line ?me_History_do ?l_History_do ?c_History_do ?k_History_do ?mi_History_do ?me_History_undo ?l_History_undo ?c_History_undo ?k_History_undo ?lT_History_undo ?oT_d_History_undo ?mi_History_undo ?me_History_redo ?l_History_redo ?c_History_redo ?k_History_redo ?lT_History_redo ?oT_d_History_redo ?mi_History_redo ?me_History_eq ?l_History_eq ?c_History_eq ?k_History_eq ?mi_History_eq ?mn_History_eq ?me_History_str ?l_History_str ?c_History_str ?k_History_str ?mi_History_str ?sa_History_of ?sr_History_of ?fn_History_of ?rd_History ?ga_History ?l_History_of ?c_History_of ?k_History_of ?aC_Program ?pg_Program ?hd_Program ?po_Program ?sa_Program ?mk_Program ?kc_Program ?ia_Program ?in_Program ?it_Program ?im_Program ?kt_of_Program_tuple ?n_Program_commands ?n_Program___bool__ ?ai_Program_init ?l_Program_init ?c_Program_init ?k_Program_init ?kq_Program_init ?le0_Program_init ?ce0_Program_init ?de0_Program_init ?ii_Program_init ?sa_Program_read ?sr_Program_read ?fn_Program_read ?l_Program_read ?c_Program_read ?k_Program_read ?sa_Program_is_command ?sr_Program_is_command ?rd_Program ?ga_Program ?l_Program_is_command ?c_Program_is_command ?k_Program_is_command ?ic_Program ?if_Program_is_command ?iy_Program_is_command ?ig_Program_is_command ?ik_Program_is_command ?me_Program_len ?l_Program_len ?c_Program_len ?k_Program_len ?mi_Program_len ?me_Program_eq ?l_Program_eq ?c_Program_eq ?k_Program_eq ?mi_Program_eq ?mn_Program_eq ?me_Program_str ?l_Program_str ?c_Program_str ?k_Program_str ?mi_Program_str ?me_Program_repr ?l_Program_repr ?c_Program_repr ?k_Program_repr ?mi_Program_repr
    (case a_IsInt => k_is)
    (case l_IsInt => k_is)
    (case c_IsInt => k_is)
    (case k_IsInt => k_is)
    (case a_IsName => k_is)
    (case l_IsName => k_is)
    (case c_IsName => k_is)
    (case k_IsName => k_is)
    (case a_IsAm => k_is)
    (case l_IsAm => k_is)
    (case c_IsAm => k_is)
    (case k_IsAm => k_is)
    (case a_ChName => k_is)
    (case l_ChName => k_is)
    (case c_ChName => k_is)
    (case k_ChName => k_is)
    (case a_ChNames => k_is)
    (case l_ChNames => k_is)
    (case c_ChNames => k_is)
    (case k_ChNames => k_is)
    (case a_ChAm => k_is)
    (case l_ChAm => k_is)
    (case c_ChAm => k_is)
    (case k_ChAm => k_is)
    (case a_Moved => k_is)
    (case l_Moved => k_is)
    (case c_Moved => k_is)
    (case k_Moved => k_is)
    (case a_HWith => k_is)
    (case l_HWith => k_is)
    (case c_HWith => k_is)
    (case k_HWith => k_is)
    (case a_ChHist => k_is)
    (case l_ChHist => k_is)
    (case c_ChHist => k_is)
    (case k_ChHist => k_is)
    (case a_IsStep => k_is)
    (case l_IsStep => k_is)
    (case c_IsStep => k_is)
    (case k_IsStep => k_is)
    (case a_IsRep => k_is)
    (case l_IsRep => k_is)
    (case c_IsRep => k_is)
    (case k_IsRep => k_is)
    (case a_CmdTx => k_is)
    (case l_CmdTx => k_is)
    (case c_CmdTx => k_is)
    (case k_CmdTx => k_is)
    (case a_PSteps => k_is)
    (case l_PSteps => k_is)
    (case c_PSteps => k_is)
    (case k_PSteps => k_is)
    (case a_Shift => k_is)
    (case l_Shift => k_is)
    (case c_Shift => k_is)
    (case k_Shift => k_is)
    (case a_PRep => k_is)
    (case l_PRep => k_is)
    (case c_PRep => k_is)
    (case k_PRep => k_is)
    (case a_PAft => k_is)
    (case l_PAft => k_is)
    (case c_PAft => k_is)
    (case k_PAft => k_is)
    (case a_NumIn => k_is)
    (case l_NumIn => k_is)
    (case c_NumIn => k_is)
    (case k_NumIn => k_is)
    (case a_StepIn => k_is)
    (case l_StepIn => k_is)
    (case c_StepIn => k_is)
    (case k_StepIn => k_is)
    (case a_RepIn => k_is)
    (case l_RepIn => k_is)
    (case c_RepIn => k_is)
    (case k_RepIn => k_is)
    (case a_CmdIn => k_is)
    (case l_CmdIn => k_is)
    (case c_CmdIn => k_is)
    (case k_CmdIn => k_is)
    (case a_POf => k_is)
    (case l_POf => k_is)
    (case c_POf => k_is)
    (case k_POf => k_is)
    (case a_ChProg => k_is)
    (case l_ChProg => k_is)
    (case c_ChProg => k_is)
    (case k_ChProg => k_is)
    (case a_Cell => k_is)
    (case l_Cell => k_is)
    (case c_Cell => k_is)
    (case k_Cell => k_is)
    (case a_Pool => k_is)
    (case l_Pool => k_is)
    (case c_Pool => k_is)
    (case k_Pool => k_is)
    (case a_Draw => k_is)
    (case l_Draw => k_is)
    (case c_Draw => k_is)
    (case k_Draw => k_is)
    (case a_Calls => k_is)
    (case l_Calls => k_is)
    (case c_Calls => k_is)
    (case k_Calls => k_is)
    (case a_Amnt => k_is)
    (case l_Amnt => k_is)
    (case c_Amnt => k_is)
    (case k_Amnt => k_is)
    (case a_Moves => k_is)
    (case l_Moves => k_is)
    (case c_Moves => k_is)
    (case k_Moves => k_is)
    (case a_Steps => k_is)
    (case l_Steps => k_is)
    (case c_Steps => k_is)
    (case k_Steps => k_is)
    (case a_LWhole => k_is)
    (case l_LWhole => k_is)
    (case c_LWhole => k_is)
    (case k_LWhole => k_is)
    (case a_LCall => k_is)
    (case l_LCall => k_is)
    (case c_LCall => k_is)
    (case k_LCall => k_is)
    (case a_LMove => k_is)
    (case l_LMove => k_is)
    (case c_LMove => k_is)
    (case k_LMove => k_is)
    (case a_LStep => k_is)
    (case l_LStep => k_is)
    (case c_LStep => k_is)
    (case k_LStep => k_is)
    (case a_LOdd => k_is)
    (case l_LOdd => k_is)
    (case c_LOdd => k_is)
    (case k_LOdd => k_is)
    (case a_LPart => k_is)
    (case l_LPart => k_is)
    (case c_LPart => k_is)
    (case k_LPart => k_is)
    (case a_Bent => k_is)
    (case l_Bent => k_is)
    (case c_Bent => k_is)
    (case k_Bent => k_is)
    (case a_Right => k_is)
    (case l_Right => k_is)
    (case c_Right => k_is)
    (case k_Right => k_is)
    (case a_Law => k_is)
    (case l_Law => k_is)
    (case c_Law => k_is)
    (case k_Law => k_is)
    (case z_abs => k_is)
    (case z_all => k_is)
    (case z_any => k_is)
    (case z_bool => k_is)
    (case z_divmod => k_is)
    (case z_enumerate => k_is)
    (case z_int => k_is)
    (case z_isinstance => k_is)
    (case z_len => k_is)
    (case z_list => k_is)
    (case z_max => k_is)
    (case z_min => k_is)
    (case z_range => k_is)
    (case z_repr => k_is)
    (case z_str => k_is)
    (case z_sum => k_is)
    (case z_tuple => k_is)
    (case a_LONGEST_NAME => k_is)
    (case a_BEFORE_STEPS => k_is)
    (case a_AFTER_STEPS => k_is)
    (case aC_History => k_is)
    (case pg_History => k_is)
    (case hd_History => k_is)
    (case po_History => k_is)
    (case sa_History => k_is)
    (case mk_History => k_is)
    (case kc_History => k_is)
    (case ia_History => k_is)
    (case in_History => k_is)
    (case it_History => k_is)
    (case im_History => k_is)
    (case n_History_past => k_is)
    (case n_History_future => k_is)
    (case ai_History_init => k_is)
    (case l_History_init => k_is)
    (case c_History_init => k_is)
    (case k_History_init => k_is)
    (case lT_History_init => k_is)
    (case oT_d_History_init => rfl)
    (case le0_History_init => k_is)
    (case ce0_History_init => rfl)
    (case de0_History_init => rfl)
    (case le1_History_init => k_is)
    (case ce1_History_init => rfl)
    (case de1_History_init => rfl)
    (case ii_History_init => k_is)
    (case qa_History_line => k_is)
    (case qr_History_line => k_is)
    (case l_History_line => k_is)
    (case c_History_line => k_is)
    (case k_History_line => k_is)
    (case qg_History_line => k_is)
    (case qt_History_line => k_is)
    (case me_History_do => k_is)
    (case l_History_do => k_is)
    (case c_History_do => k_is)
    (case k_History_do => k_is)
    (case mi_History_do => k_is)
    (case me_History_undo => k_is)
    (case l_History_undo => k_is)
    (case c_History_undo => k_is)
    (case k_History_undo => k_is)
    (case lT_History_undo => k_is)
    (case oT_d_History_undo => rfl)
    (case mi_History_undo => k_is)
    (case me_History_redo => k_is)
    (case l_History_redo => k_is)
    (case c_History_redo => k_is)
    (case k_History_redo => k_is)
    (case lT_History_redo => k_is)
    (case oT_d_History_redo => rfl)
    (case mi_History_redo => k_is)
    (case me_History_eq => k_is)
    (case l_History_eq => k_is)
    (case c_History_eq => k_is)
    (case k_History_eq => k_is)
    (case mi_History_eq => k_is)
    (case mn_History_eq => k_is)
    (case me_History_str => k_is)
    (case l_History_str => k_is)
    (case c_History_str => k_is)
    (case k_History_str => k_is)
    (case mi_History_str => k_is)
    (case sa_History_of => k_is)
    (case sr_History_of => k_is)
    (case fn_History_of => k_is)
    (case rd_History => k_is)
    (case ga_History => k_is)
    (case l_History_of => k_is)
    (case c_History_of => k_is)
    (case k_History_of => k_is)
    (case aC_Program => k_is)
    (case pg_Program => k_is)
    (case hd_Program => k_is)
    (case po_Program => k_is)
    (case sa_Program => k_is)
    (case mk_Program => k_is)
    (case kc_Program => k_is)
    (case ia_Program => k_is)
    (case in_Program => k_is)
    (case it_Program => k_is)
    (case im_Program => k_is)
    (case kt_of_Program_tuple => kit_is)
    (case n_Program_commands => k_is)
    (case n_Program___bool__ => k_is)
    (case ai_Program_init => k_is)
    (case l_Program_init => k_is)
    (case c_Program_init => k_is)
    (case k_Program_init => k_is)
    (case kq_Program_init => k_is)
    (case le0_Program_init => k_is)
    (case ce0_Program_init => rfl)
    (case de0_Program_init => rfl)
    (case ii_Program_init => k_is)
    (case sa_Program_read => k_is)
    (case sr_Program_read => k_is)
    (case fn_Program_read => k_is)
    (case l_Program_read => k_is)
    (case c_Program_read => k_is)
    (case k_Program_read => k_is)
    (case sa_Program_is_command => k_is)
    (case sr_Program_is_command => k_is)
    (case rd_Program => k_is)
    (case ga_Program => k_is)
    (case l_Program_is_command => k_is)
    (case c_Program_is_command => k_is)
    (case k_Program_is_command => k_is)
    (case ic_Program => k_is)
    (case if_Program_is_command => k_is)
    (case iy_Program_is_command => k_is)
    (case ig_Program_is_command => k_is)
    (case ik_Program_is_command => k_is)
    (case me_Program_len => k_is)
    (case l_Program_len => k_is)
    (case c_Program_len => k_is)
    (case k_Program_len => k_is)
    (case mi_Program_len => k_is)
    (case me_Program_eq => k_is)
    (case l_Program_eq => k_is)
    (case c_Program_eq => k_is)
    (case k_Program_eq => k_is)
    (case mi_Program_eq => k_is)
    (case mn_Program_eq => k_is)
    (case me_Program_str => k_is)
    (case l_Program_str => k_is)
    (case c_Program_str => k_is)
    (case k_Program_str => k_is)
    (case mi_Program_str => k_is)
    (case me_Program_repr => k_is)
    (case l_Program_repr => k_is)
    (case c_Program_repr => k_is)
    (case k_Program_repr => k_is)
    (case mi_Program_repr => k_is)
