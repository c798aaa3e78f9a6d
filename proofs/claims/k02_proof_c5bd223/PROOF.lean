import PyProof.Rows.All
import Wide.All
import OpenK.AllK
import Wide.FinOn
import HandS.EndBits
import HandS.WordsExc
import HandS.StrMore
import HandS.MakeKw
import HandS.TupMul
import HandS.EndTab
import KE.KNestM
import HandS.HotCalls
import KE.KTryMore
import HandS.ExcValue
import HandS.ExcInit
import HandS.ExcIs
import HandS.ExcField
import PyProof.Rows.Range3
import HandS.FStr
import HandS.ClsMeth
import HandS.Flow
import HandS.SortInts
import HandS.WideBits
import HandS.Conv
import HandS.Star
import HandS.Style
import HandS.Text
import HandS.SuiteRaise
import KE.KCallOwn
import HandS.OwnEq
import HandS.More
import HandS.IsInst
import HandS.Codes
import HandS.Defaults
import PyProof.InstNe
import PyProof.Draws
import PyProof.EnumMake
import PyProof.WalksMore
import HandS.TupAny
import HandS.ReplaceList
import HandS.ForMost
import HandS.Property
import HandS.Lambda
import PyProof.ReprRoads
import PyProof.StrLawsRepr
import HandS.TryOnly
import KE.KIntText
import PyProof.StrLawsTight
import PyProof.StrLawsFirst
import KE.IntTextLaws
import HandS.SetFor
import PySem.Challenge.RW_undotables_k02_histories_made_and_refuse
set_option Elab.async false
set_option linter.all false
set_option maxRecDepth 100000
set_option maxHeartbeats 8000000
namespace Und
open PySem PySem.Spec PyProof.Rows L2

/-! ### the heap without the pool at p -/
def hid (p : Addr) (H : Hp) : Hp := fun b => if b = p then none else H b
theorem hid_same (p : Addr) (H : Hp) : Same (hid p H) H := fun b o e => by
  unfold hid at e
  by_cases h : b = p
  · rw [if_pos h] at e
    cases e
  · rw [if_neg h] at e
    exact e
theorem hid_ne {p : Addr} {H : Hp} {b : Addr} (h : b ≠ p) : hid p H b = H b := by
  unfold hid
  rw [if_neg h]
theorem hid_mono {p : Addr} {H H' : Hp} (s : Same H H') : Same (hid p H) (hid p H') := fun b o e => by
  unfold hid at e ⊢
  by_cases h : b = p
  · rw [if_pos h] at e
    cases e
  · rw [if_neg h] at e ⊢
    exact s b o e
theorem same_new {H : Hp} {p : Addr} {o : HO} (h : H p = none) : Same H (upd H p o) := fun b x e => by
  rw [upd_ne (ne_of_none e h)]
  exact e
/-- what changes is the pool alone -/
theorem hid_upd {p : Addr} {H : Hp} {o : HO} : Same (hid p H) (hid p (upd H p o)) := fun b x e => by
  unfold hid at e ⊢
  by_cases h : b = p
  · rw [if_pos h] at e
    cases e
  · rw [if_neg h] at e ⊢
    rw [upd_ne h]
    exact e
theorem same_seqT {K : PySem.W.Frag} {H H' : Hp} {a : Addr} {xs : List V} (e : Same H H') (h : SqT K H a xs) : SqT K H' a xs := by
  rcases h with (h | ⟨o, h⟩) | h
  · exact .inl (.inl (e _ _ h))
  · exact .inl (.inr ⟨o, e _ _ h⟩)
  · exact .inr h

theorem cut_ints (ns : List Int) (lo hi : Option Int) : ∃ ms : List Int, cutV (ns.map V.int) lo hi = ms.map V.int := by
  unfold cutV
  simp only [← List.map_drop, ← List.map_take]
  exact ⟨_, rfl⟩
theorem int_at {ns : List Int} {i : Nat} {x : V} (h : (ns.map V.int)[i]? = some x) : ∃ z, x = .int z := by
  rw [List.getElem?_map] at h
  cases e : ns[i]? with
  | none =>
    rw [e] at h
    cases h
  | some z =>
    rw [e] at h
    exact ⟨z, (Option.some.inj h).symm⟩

/-! ### the pool -/
/-- three ints that a draw leaves in their bounds -/
def Pool (H : Hp) (p : Addr) : Prop := ∃ a b c : Int, H p = some (.lst [.int a, .int b, .int c]) ∧ 0 ≤ a ∧ a < 2147483477 ∧ 0 ≤ b
theorem Pool.same {H H' : Hp} {p : Addr} (s : Same H H') (h : Pool H p) : Pool H' p := by
  obtain ⟨a, b, c, e, r⟩ := h
  exact ⟨a, b, c, s _ _ e, r⟩
/-- from H to H' the pool alone was drawn from; new objects may stand -/
structure Stp (p : Addr) (H H' : Hp) : Prop where
  s : Same (hid p H) (hid p H')
  q : Pool H' p
theorem Stp.trans {p : Addr} {H H1 H2 : Hp} (a : Stp p H H1) (b : Stp p H1 H2) : Stp p H H2 := ⟨a.s.trans b.s, b.q⟩
theorem Stp.of {p : Addr} {H H1 : Hp} (q : Pool H p) (s : Same H H1) : Stp p H H1 := ⟨hid_mono s, q.same s⟩
theorem Stp.refl {p : Addr} {H : Hp} (q : Pool H p) : Stp p H H := ⟨Same.refl _, q⟩

section
variable {P : Program} {w : World} {K : PySem.W.Frag} {mg : Str → Option Value} {base : Heap}

/-- a def of the top, by its name -/
structure FD (K : PySem.W.Frag) (mg : Str → Option Value) (x : Str) (st : Stmt) (ps : List Str) (f : Addr) (fd : FuncData) : Prop where
  F : Fun K x x st f fd
  m : mg x = some (.ref f)
  b : Binds K fd ps []
end

section
variable {X : Cx}
/-- f(e, ..) -/
theorem pcall {CX : CXT} {k : Nat} {x : Str} {st : Stmt} {ps : List Str} {f : Addr} {fd : FuncData} {sp : Sp} {E : XK} {e : Expr} {es : List Expr} {t : TA} {p pos : Pos} (D : FD X.K X.mg x st ps f fd) (G : FnOk X.prog X.w X.K X.mg X.base CX k f fd ps sp) (hr : Room k X.A) (hg : Gl X x) (hx : Passes CX X E)
    (ha : PA X (e :: es) t) (hdb : (x == ("__debug__" : Str)) = false := by decide) (he : starEach (e :: es) X.env = (false, eval e X.env) :: starEach es X.env := by rfl) (hpl : (backTo pos (starEach es X.env)).any (·.1) = false := by rfl) :
    PE X (.Call (.Name x p) (e :: es) [] pos) (tCall sp [] E t) := pe_call G hr hg D.m D.F.kp D.b .nil hx ha hdb he hpl
end

/-! ### readings, a step at a time -/
section
variable {K : PySem.W.Frag} {σ : L2.St} {H : Hp} {Q : VK} {D : Ends} {i : Nat} {v x y : V} {ta tb tc te : TE} {t1 t2 ts : TS} {b : Bool}
theorem c_seq (h : t1 { D with nx := t2 D } σ H) : tSeq t1 t2 D σ H := h
theorem c_next (h : D.nx σ H) : tNext D σ H := h
theorem c_asg (h : te σ H fun v H1 => D.nx (σ.set i (some v)) H1) : tAsg te (gName i) D σ H := h
theorem c_asg2 {g : TG} (h : te σ H fun x H1 => g x σ H1 D.nx) : tAsg te g D σ H := h
theorem c_yes {Q : Bool → Hp → Prop} (h : Q true H) : tYes σ H Q := h
theorem c_eq (h : scal x y = true) (q : Q (.bl (decide (x = y))) H) : rEq x y H Q := ⟨h, q⟩
theorem c_neq (h : scal x y = true) (q : Q (.bl (!decide (x = y))) H) : rNe x y H Q := ⟨h, q⟩
theorem c_par {i j : Nat} {t : TA} (h : t σ H fun vs H1 => ∃ v w, vs = [v, w] ∧ D.nx ((σ.set i (some v)).set j (some w)) H1) : tPar i j t D σ H := h
theorem c_two {R : V → V → Prop} (h : R x y) : ∃ v w, [x, y] = [v, w] ∧ R v w := ⟨x, y, rfl, h⟩
theorem c_g {Q : L2.St → Hp → Prop} (h : Q (σ.set i (some v)) H) : gName i v σ H Q := h
theorem c_ret (h : te σ H D.rt) : tRet te D σ H := h
theorem c_drop (h : te σ H fun _ H1 => D.nx σ H1) : tDrop te D σ H := h
theorem c_var (e : σ[i]? = some (some v)) (h : Q v H) : tVar i σ H Q := ⟨v, e, h⟩
theorem c_c (h : Q v H) : tC v σ H Q := h
theorem c_op {r : R2} (h : ta σ H fun x H1 => tb σ H1 fun y H2 => r x y H2 Q) : tOp r ta tb σ H Q := h
theorem c_un {r : V → Hp → VK → Prop} (h : ta σ H fun x H1 => r x H1 Q) : tUn r ta σ H Q := h
theorem c_I0 {g : Int → Int → V} {i j : Int} (h : Q (g i j) H) : rI0 g (.int i) (.int j) H Q := ⟨i, j, rfl, rfl, h⟩
theorem c_I {C : Int → Int → Prop} {g : Int → Int → V} {i j : Int} (c : C i j) (h : Q (g i j) H) : rI C g (.int i) (.int j) H Q := ⟨i, j, rfl, rfl, c, h⟩
theorem c_test {Q : Bool → Hp → Prop} (h : te σ H fun x H' => ∃ k, x = .bl k ∧ Q k H') : tTest te σ H Q := h
theorem c_B {Q : Bool → Hp → Prop} (h : te σ H fun x H' => ∃ k, x = .bl k ∧ Q k H') : tB te σ H Q := h
theorem c_bl {Q : Bool → Prop} (h : Q b) : ∃ k, V.bl b = .bl k ∧ Q k := ⟨b, rfl, h⟩
theorem c_ifs {c : TT} (h : c σ H fun b H1 => if b = true then t1 D σ H1 else t2 D σ H1) : tIfS c t1 t2 D σ H := h
theorem c_ife {c : TT} (h : c σ H fun b H1 => if b = true then ta σ H1 Q else tb σ H1 Q) : tIf c ta tb σ H Q := h
theorem c_andV (h : ta σ H fun x H1 => ∃ c, x = .bl c ∧ if c = true then tb σ H1 Q else Q (.bl false) H1) : tAndV ta tb σ H Q := h
theorem c_orV (h : ta σ H fun x H1 => ∃ c, x = .bl c ∧ if c = true then Q (.bl true) H1 else tb σ H1 Q) : tOrV ta tb σ H Q := h
theorem c_notV (h : ta σ H fun x H1 => ∃ c, x = .bl c ∧ Q (.bl (!c)) H1) : tNotV ta σ H Q := h
theorem c_and {t u : TT} {Q : Bool → Hp → Prop} (h : t σ H fun c H1 => if c = true then u σ H1 Q else Q false H1) : tAnd t u σ H Q := h
theorem c_or {t u : TT} {Q : Bool → Hp → Prop} (h : t σ H fun c H1 => if c = true then Q true H1 else u σ H1 Q) : tOr t u σ H Q := h
theorem c_not {t : TT} {Q : Bool → Hp → Prop} (h : t σ H fun c H1 => Q (!c) H1) : tNot t σ H Q := h
theorem c_call {sp : Sp} {dvs : List V} {E : XK} {t : TA} (h : t σ H fun vs H1 => sp (vs ++ dvs) H1 Q E) : tCall sp dvs E t σ H Q := h
theorem c_cb {r : List V → Hp → VK → Prop} {t : TA} (h : t σ H fun vs H1 => r vs H1 Q) : tCB r t σ H Q := h
theorem c_nil {Q : List V → Hp → Prop} (h : Q [] H) : tNil σ H Q := h
theorem c_cons {t : TA} {Q : List V → Hp → Prop} (h : te σ H fun x H1 => t σ H1 fun xs H2 => Q (x :: xs) H2) : tCons te t σ H Q := h
def rNewT (xs : List V) (H : Hp) (Q : VK) : Prop := xs.length ≤ sizeLine ∧ ∀ p, H p = none → Q (.ref p) (upd H p (.tup xs))
def rNewL (xs : List V) (H : Hp) (Q : VK) : Prop := xs.length ≤ sizeLine ∧ ∀ p, H p = none → Q (.ref p) (upd H p (.lst xs))
theorem c_tup {t : TA} (h : t σ H fun xs H1 => rNewT xs H1 Q) : tTup t σ H Q := h
theorem c_lst {t : TA} (h : t σ H fun xs H1 => rNewL xs H1 Q) : tLst t σ H Q := h
theorem sz {n : Nat} (h : n ≤ 100000) : n ≤ sizeLine := Nat.le_trans h (by decide)
theorem szl {n : Nat} (h : n < 100000) : n < sizeLine := Nat.lt_of_lt_of_le h (by decide)
theorem c_ixL {a : Addr} {xs : List V} {k : Int} (e : SqL K H a xs) (j : Nat) (hk : k = (j : Int)) (hv : xs[j]? = some v) (h : Q v H) : rIxL K (.ref a) (.int k) H Q := ⟨a, xs, k, v, rfl, rfl, e, at_of hk hv, h⟩
theorem c_ixT {a : Addr} {xs : List V} {k : Int} (e : SqT K H a xs) (j : Nat) (hk : k = (j : Int)) (hv : xs[j]? = some v) (h : Q v H) : rIxT K (.ref a) (.int k) H Q := ⟨a, xs, k, v, rfl, rfl, e, at_of hk hv, h⟩
theorem c_gsub {to ti : TE} {t : TSet} {Q : L2.St → Hp → Prop} (h : to σ H fun o H1 => ti σ H1 fun i H2 => t o i v H2 fun H3 => Q σ H3) : gSub to ti t v σ H Q := h
theorem c_gtup {a : Addr} {xs : List V} {n : Nat} {t : TGs} {Q : L2.St → Hp → Prop} (e : SqT K H a xs) (hn : xs.length = n) (h : t xs σ H Q) : gTup K n t (.ref a) σ H Q := ⟨a, xs, rfl, e, hn, h⟩
theorem c_gcons {r : List V} {t : TG} {u : TGs} {Q : L2.St → Hp → Prop} (h : t v σ H fun σ' H' => u r σ' H' Q) : gCons t u (v :: r) σ H Q := ⟨v, r, rfl, h⟩
theorem c_gnil {Q : L2.St → Hp → Prop} (h : Q σ H) : gNil [] σ H Q := ⟨rfl, h⟩
theorem c_setL {a : Addr} {xs : List V} {k : Int} {Q : Hp → Prop} (e : H a = some (.lst xs)) (j : Nat) (hk : ixN xs.length k = some j) (h : Q (upd H a (.lst (xs.set j v)))) : rSetL (.ref a) (.int k) v H Q := ⟨a, xs, k, j, rfl, rfl, e, hk, h⟩
theorem c_newT {xs : List V} (z : xs.length ≤ 100000) (h : ∀ p H2, H p = none → Same H H2 → H2 p = some (.tup xs) → Q (.ref p) H2) : rNewT xs H Q := ⟨sz z, fun p np => h p _ np (same_new np) upd_same⟩
theorem c_newL {xs : List V} (z : xs.length ≤ 100000) (h : ∀ p H2, H p = none → Same H H2 → H2 p = some (.lst xs) → Q (.ref p) H2) : rNewL xs H Q := ⟨sz z, fun p np => h p _ np (same_new np) upd_same⟩
theorem c_slL {a : Addr} {xs : List V} {lo hi : Option Int} (e : SqL K H a xs) (h : ∀ p H2, H p = none → Same H H2 → H2 p = some (.lst (cutV xs lo hi)) → Q (.ref p) H2) : rSlL K (.ref a) lo hi H Q :=
  ⟨a, xs, rfl, e, fun p np => h p _ np (same_new np) upd_same⟩
theorem c_sl {r : V → Option Int → Option Int → Hp → VK → Prop} {tl th : TO} (h : te σ H fun x H1 => tl σ H1 fun l H2 => th σ H2 fun u H3 => r x l u H3 Q) : tSl r te tl th σ H Q := h
theorem c_nop {Q : Option Int → Hp → Prop} (h : Q none H) : tNoPart σ H Q := h
theorem c_part {Q : Option Int → Hp → Prop} (h : te σ H fun x H1 => ∃ i, x = .int i ∧ Q (some i) H1) : tPart te σ H Q := h
theorem c_int {i : Int} {Q : Int → Prop} (h : Q i) : ∃ j, V.int i = .int j ∧ Q j := ⟨i, rfl, h⟩
def rFld (K : PySem.W.Frag) (f : Str) (x : V) (H : Hp) (Q : VK) : Prop := ∃ a C dx fs v, x = .ref a ∧ H a = some (.ins C dx fs) ∧ Cls K C ∧ NoAttr K C f ∧ fs.lookup f = some v ∧ Q v H
theorem c_fld {f : Str} (h : ta σ H fun x H1 => rFld K f x H1 Q) : tFld K ta f σ H Q := h
theorem c_for {wi : TI} {g : TG} {tb : TS} (h : wi σ H fun J H1 => ∃ W : Nat → Nat → L2.St → Hp → Prop, (∃ m, W 0 m σ H1) ∧ ∀ i m σ H, W i m σ H →
  (J.stop i H ∧ D.nx σ H) ∨ (J.go i H ∧ ∃ N : L2.St → Hp → Prop, (∀ σ' H', N σ' H' → ∃ m', m' < m ∧ W (i + 1) m' σ' H') ∧ ∀ x H', J.yld i H x H' → g x σ H' fun σ2 H2 => tb { D with nx := N, ct := N, bk := D.nx } σ2 H2)) : tFor wi g tb D σ H := h
theorem c_ilist {tl : TE} {R : It → Hp → Prop} (h : tl σ H fun x H1 => ∃ a, x = .ref a ∧ (∃ xs, SqL K H1 a xs) ∧ R (Itl K a) H1) : iList K tl σ H R := h
theorem c_itup {tl : TE} {R : It → Hp → Prop} (h : tl σ H fun x H1 => ∃ a, x = .ref a ∧ (∃ xs, SqT K H1 a xs) ∧ R (Itt K a) H1) : iTup K tl σ H R := h
theorem c_irng1 {t : TA} {R : It → Hp → Prop} (h : t σ H fun vs H1 => ∃ j : Int, vs = [.int j] ∧ -(2 ^ 62) ≤ j ∧ j < 2 ^ 62 ∧ R (Itr 0 j.toNat) H1) : iRng1 t σ H R := h
theorem c_lc {wi : TI} {g : TG} {tt : TT} {vs : List Nat} (h : wi σ H fun J H1 => ∀ D, H1 D = none → ∃ W : Nat → Nat → Hp → Prop, (∃ m, W 0 m (upd H1 D (.lst []))) ∧ ∀ i m H, W i m H →
  (J.stop i H ∧ Q (.ref D) H) ∨ (J.go i H ∧ ∃ Nx : Hp → Prop, (∀ H', Nx H' → ∃ m', m' < m ∧ W (i + 1) m' H') ∧ ∀ x H', J.yld i H x H' → g x (wipe σ vs) H' fun σ2 H2 => wipe σ2 vs = wipe σ vs ∧ tt σ2 H2 fun b H3 =>
    if b = true then te σ2 H3 fun y H4 => ∃ acc, H4 D = some (.lst acc) ∧ acc.length < sizeLine ∧ Nx (upd H4 D (.lst (acc ++ [y]))) else Nx H3)) : tLc wi g tt te vs σ H Q := h
end

/-! ### comprehensions that keep all items -/
theorem Stp.mut {p D : Addr} {H1 H4 : Hp} {o : HO} (s : Stp p H1 H4) (nD : H1 D = none) (ne : p ≠ D) : Stp p H1 (upd H4 D o) := by
  refine ⟨fun b u e => ?_, ?_⟩
  · have e4 := s.s b u e
    unfold hid at e e4 ⊢
    by_cases h : b = p
    · rw [if_pos h] at e
      cases e
    · rw [if_neg h] at e e4 ⊢
      rw [upd_ne (ne_of_none e nD)]
      exact e4
  · obtain ⟨a, b, c, e, r⟩ := s.q
    exact ⟨a, b, c, by rw [upd_ne ne]; exact e, r⟩
theorem Same.mut {D : Addr} {H1 H4 : Hp} {o : HO} (s : Same H1 H4) (nD : H1 D = none) : Same H1 (upd H4 D o) := fun b u e => by
  rw [upd_ne (ne_of_none e nD)]
  exact s b u e
theorem Stp.at {p a : Addr} {H H' : Hp} {o : HO} (s : Stp p H H') (e : H a = some o) (ne : p ≠ a) : H' a = some o := by
  have h := s.s a o ((hid_ne ne.symm).trans e)
  rwa [hid_ne ne.symm] at h
theorem Pool.ne {p D : Addr} {H : Hp} (q : Pool H p) (n : H D = none) : p ≠ D := by
  obtain ⟨a, b, c, e, _⟩ := q
  exact ne_of_none e n
/-- what the list of a comprehension holds so far -/
def Acc (R : Nat → V → Prop) (D : Addr) (i : Nat) (H : Hp) : Prop := ∃ xs, H D = some (.lst xs) ∧ xs.length = i ∧ ∀ j y, xs[j]? = some y → R j y
theorem Acc.put {R : Nat → V → Prop} {D : Addr} {i : Nat} {H : Hp} {xs : List V} {y : V} (l : xs.length = i) (h : ∀ j y, xs[j]? = some y → R j y) (r : R i y) : Acc R D (i + 1) (upd H D (.lst (xs ++ [y]))) := by
  refine ⟨_, upd_same, by rw [List.length_append, l]; rfl, fun j z e => ?_⟩
  by_cases hj : j < xs.length
  · rw [List.getElem?_append_left hj] at e
    exact h j z e
  · rw [List.getElem?_append_right (by omega)] at e
    have h0 : j - xs.length = 0 := by
      by_cases h0 : j - xs.length = 0
      · exact h0
      · rw [List.getElem?_eq_none (by show 1 ≤ _; omega)] at e
        cases e
    rw [h0] at e
    have ej : j = i := by omega
    have ey : y = z := Option.some.inj e
    rw [ej, ← ey]
    exact r
abbrev LcW (J : It) (te : TE) (g : TG) (tt : TT) (vs : List Nat) (σ : L2.St) (H1 : Hp) (D : Addr) (Q : Hp → Prop) : Prop := ∃ W : Nat → Nat → Hp → Prop, (∃ m, W 0 m (upd H1 D (.lst []))) ∧ ∀ i m H, W i m H →
      (J.stop i H ∧ Q H) ∨ (J.go i H ∧ ∃ Nx : Hp → Prop, (∀ H', Nx H' → ∃ m', m' < m ∧ W (i + 1) m' H') ∧ ∀ x H', J.yld i H x H' → g x (wipe σ vs) H' fun σ2 H2 => wipe σ2 vs = wipe σ vs ∧ tt σ2 H2 fun b H3 =>
        if b = true then te σ2 H3 fun y H4 => ∃ acc, H4 D = some (.lst acc) ∧ acc.length < sizeLine ∧ Nx (upd H4 D (.lst (acc ++ [y]))) else Nx H3)
section
variable {K : PySem.W.Frag} {te : TE} {i0 n : Nat} {vs : List Nat} {σ : L2.St} {H1 : Hp} {D p a : Addr} {Qd : Hp → Prop} {ys : List V}
/-- over range(n), draws on the way -/
theorem lc_rgP (R : Nat → V → Prop) (pool : Pool H1 p) (nD : H1 D = none) (hn : n ≤ 100000) (hw : ∀ v, wipe ((wipe σ vs).set i0 (some v)) vs = wipe σ vs)
    (hs : ∀ i H (Q' : VK), i < n → Stp p H1 H → (∀ y H4, Stp p H H4 → R i y → Q' y H4) → te ((wipe σ vs).set i0 (some (.int (i : Int)))) H Q')
    (hd : ∀ H xs, Stp p H1 H → H D = some (.lst xs) → xs.length = n → (∀ i y, xs[i]? = some y → R i y) → Qd H) : LcW (Itr 0 n) te (gName i0) tYes vs σ H1 D Qd := by
  have ne := pool.ne nD
  refine lc_range (fun i H => Stp p H1 H ∧ Acc R D i H) ⟨Stp.of pool (same_new nD), [], upd_same, rfl, fun j y e => by simp at e⟩ (fun i H hi h => ?_) (fun H h => ?_)
  · obtain ⟨st, xs, e, l, r⟩ := h
    refine ⟨hw _, c_yes ?_⟩
    rw [if_pos rfl]
    rw [Int.zero_add]
    exact hs i H _ hi st fun y H4 s4 ry => ⟨xs, s4.at e ne, szl (by omega), (st.trans s4).mut nD ne, Acc.put l r ry⟩
  · obtain ⟨st, xs, e, l, r⟩ := h
    exact hd H xs st e l r
/-- over range(n) -/
theorem lc_rg (R : Nat → V → Prop) (nD : H1 D = none) (hn : n ≤ 100000) (hw : ∀ v, wipe ((wipe σ vs).set i0 (some v)) vs = wipe σ vs)
    (hs : ∀ i H (Q' : VK), i < n → Same H1 H → (∀ y H4, Same H H4 → R i y → Q' y H4) → te ((wipe σ vs).set i0 (some (.int (i : Int)))) H Q')
    (hd : ∀ H xs, Same H1 H → H D = some (.lst xs) → xs.length = n → (∀ i y, xs[i]? = some y → R i y) → Qd H) : LcW (Itr 0 n) te (gName i0) tYes vs σ H1 D Qd := by
  refine lc_range (fun i H => Same H1 H ∧ Acc R D i H) ⟨same_new nD, [], upd_same, rfl, fun j y e => by simp at e⟩ (fun i H hi h => ?_) (fun H h => ?_)
  · obtain ⟨st, xs, e, l, r⟩ := h
    refine ⟨hw _, c_yes ?_⟩
    rw [if_pos rfl]
    rw [Int.zero_add]
    exact hs i H _ hi st fun y H4 s4 ry => ⟨xs, s4 _ _ e, szl (by omega), Same.mut (st.trans s4) nD, Acc.put l r ry⟩
  · obtain ⟨st, xs, e, l, r⟩ := h
    exact hd H xs st e l r
/-- over a list -/
theorem lc_ls (R : Nat → V → Prop) (nD : H1 D = none) (hn : ys.length ≤ 100000) (hA : SqL K H1 a ys) (hw : ∀ v, wipe ((wipe σ vs).set i0 (some v)) vs = wipe σ vs)
    (hs : ∀ i x H (Q' : VK), ys[i]? = some x → Same H1 H → (∀ y H4, Same H H4 → R i y → Q' y H4) → te ((wipe σ vs).set i0 (some x)) H Q')
    (hd : ∀ H xs, Same H1 H → H D = some (.lst xs) → xs.length = ys.length → (∀ i y, xs[i]? = some y → R i y) → Qd H) : LcW (Itl K a) te (gName i0) tYes vs σ H1 D Qd := by
  refine lc_list (xs := ys) (fun i H => Same H1 H ∧ Acc R D i H) ⟨same_new nD, [], upd_same, rfl, fun j y e => by simp at e⟩ (fun i H _ h => h.1.seq hA) (fun i x H hi h => ?_) (fun H h => ?_)
  · obtain ⟨st, xs, e, l, r⟩ := h
    refine ⟨hw _, c_yes ?_⟩
    rw [if_pos rfl]
    have hl := (List.getElem?_eq_some_iff.mp hi).1
    exact hs i x H _ hi st fun y H4 s4 ry => ⟨xs, s4 _ _ e, szl (by omega), Same.mut (st.trans s4) nD, Acc.put l r ry⟩
  · obtain ⟨st, xs, e, l, r⟩ := h
    exact hd H xs st e l r
/-- over a tuple -/
theorem lc_tp (R : Nat → V → Prop) (nD : H1 D = none) (hn : ys.length ≤ 100000) (hA : SqT K H1 a ys) (hw : ∀ v, wipe ((wipe σ vs).set i0 (some v)) vs = wipe σ vs)
    (hs : ∀ i x H (Q' : VK), ys[i]? = some x → Same H1 H → (∀ y H4, Same H H4 → R i y → Q' y H4) → te ((wipe σ vs).set i0 (some x)) H Q')
    (hd : ∀ H xs, Same H1 H → H D = some (.lst xs) → xs.length = ys.length → (∀ i y, xs[i]? = some y → R i y) → Qd H) : LcW (Itt K a) te (gName i0) tYes vs σ H1 D Qd := by
  refine lc_tup (xs := ys) (fun i H => Same H1 H ∧ Acc R D i H) ⟨same_new nD, [], upd_same, rfl, fun j y e => by simp at e⟩ (fun i H _ h => same_seqT h.1 hA) (fun i x H hi h => ?_) (fun H h => ?_)
  · obtain ⟨st, xs, e, l, r⟩ := h
    refine ⟨hw _, c_yes ?_⟩
    rw [if_pos rfl]
    have hl := (List.getElem?_eq_some_iff.mp hi).1
    exact hs i x H _ hi st fun y H4 s4 ry => ⟨xs, s4 _ _ e, szl (by omega), Same.mut (st.trans s4) nD, Acc.put l r ry⟩
  · obtain ⟨st, xs, e, l, r⟩ := h
    exact hd H xs st e l r
end
/-- a list whose items are all texts of a kind -/
theorem strs_of {xs : List V} {A : Str → Prop} (h : ∀ (i : Nat) y, xs[i]? = some y → ∃ z, y = V.str z ∧ A z) : ∃ ns : List Str, xs = ns.map V.str ∧ ∀ z ∈ ns, A z := by
  induction xs with
  | nil => exact ⟨[], rfl, fun z hz => by cases hz⟩
  | cons x r ih =>
    obtain ⟨z, rfl, hz⟩ := h 0 x rfl
    obtain ⟨ns, rfl, hn⟩ := ih fun i y e => h (i + 1) y e
    exact ⟨z :: ns, rfl, fun u hu => by
      rcases List.mem_cons.mp hu with e | e
      · rw [e]; exact hz
      · exact hn u e⟩
end Und
namespace Und
open PySem PySem.Spec PyProof.Rows L2
/-! ### letters -/
/-- all signs are letters a to z -/
def Low (x : Str) : Prop := ∀ c ∈ x.cps.toList, 97 ≤ c ∧ c ≤ 122
structure IsName (x : Str) : Prop where
  lo : 1 ≤ x.length
  hi : x.length ≤ 8
  low : Low x
def nameB (x : Str) : Bool := decide (1 ≤ x.length) && decide (x.length ≤ 8) && x.cps.toList.all fun c => decide (97 ≤ c) && decide (c ≤ 122)
theorem nameB_iff (x : Str) : nameB x = true ↔ IsName x := by
  unfold nameB
  simp only [Bool.and_eq_true, decide_eq_true_eq, List.all_eq_true]
  exact ⟨fun h => ⟨h.1.1, h.1.2, h.2⟩, fun h => ⟨⟨h.lo, h.hi⟩, h.low⟩⟩
theorem name_of {x : Str} (h : nameB x = true) : IsName x := (nameB_iff x).mp h
theorem len_codes (x : Str) : x.cps.toList.length = x.length := Array.length_toList
theorem low_app {x y : Str} (hx : Low x) (hy : Low y) : Low (x ++ y) := fun c hc => by
  rw [PySem.Str.cps_append, Array.toList_append] at hc
  rcases List.mem_append.mp hc with h | h
  · exact hx c h
  · exact hy c h
theorem low_cut {x : Str} {lo hi : Option Int} (hx : Low x) : Low (cutS x lo hi) := fun c hc => by
  unfold cutS at hc
  exact hx c (List.mem_of_mem_drop (List.mem_of_mem_take hc))
theorem low_one {c : Nat} (h : 97 ≤ c ∧ c ≤ 122) : Low ⟨#[c]⟩ := fun d hd => by
  have : d = c := by simpa using hd
  rw [this]
  exact h
theorem cut_len (x : Str) (k : Nat) (h : k ≤ x.length) : (cutS x none (some (k : Int))).length = k ∧ (cutS x (some (k : Int)) none).length = x.length - k := by
  unfold cutS
  rw [HT.sIx_none, HT.sIx_nat, HT.sIx_none]
  constructor
  · show (List.toArray _).size = k
    rw [List.size_toArray, List.length_take, List.length_drop, len_codes]
    omega
  · have e := HT.sIx_nat x.length 0 k
    show (List.toArray _).size = x.length - k
    rw [List.size_toArray, List.length_take, List.length_drop, len_codes, e]
    omega
theorem rep_fold (a : Array Nat) : ∀ (n : Nat) (acc : Array Nat), (List.replicate n a).foldl (· ++ ·) acc = acc ++ ((List.replicate n a.toList).flatten).toArray
  | 0, acc => by simp
  | n + 1, acc => by
    rw [List.replicate_succ, List.foldl_cons, rep_fold a n, List.replicate_succ, List.flatten_cons]
    apply Array.toList_inj.mp
    simp
theorem mul_one_codes (c : Nat) (n : Nat) (h : 1 ≤ n) : (Txt.mul ⟨#[c]⟩ (n : Int)).cps.toList = List.replicate n c := by
  unfold Txt.mul
  rw [if_neg (by omega)]
  by_cases h1 : n = 1
  · subst h1
    rw [if_pos (by rfl)]
    rfl
  · rw [if_neg (by
      have : ¬ (n : Int) = 1 := by omega
      simp [Str.length, this])]
    show ((List.replicate ((n : Int).toNat) #[c]).foldl (· ++ ·) #[]).toList = _
    rw [Int.toNat_natCast, rep_fold]
    simp
theorem mul_ok (c : Nat) (n : Nat) (h : n ≤ 1000) : MulOk ⟨#[c]⟩ (n : Int) := by
  refine ⟨?_, fun h1 _ => ?_, fun h1 _ => ?_⟩
  · have e1 : decide ((n : Int) < -(2 ^ 63 : Int)) = false := decide_eq_false (by omega)
    have e2 : decide ((n : Int) ≥ 2 ^ 63) = false := decide_eq_false (by omega)
    rw [e1, e2]
    rfl
  · have e : ((⟨#[c]⟩ : Str).length : Int) = 1 := rfl
    rw [e]
    have : (1 : Int) ≤ (2 ^ 63 - 1) / (n : Int) := by
      rw [Int.le_ediv_iff_mul_le (by omega)]
      omega
    omega
  · have e : (⟨#[c]⟩ : Str).length = 1 := rfl
    rw [e, Int.toNat_natCast, Nat.one_mul]
    unfold Builtin.Str.tooLong
    apply decide_eq_false
    have := sz (n := n) (by omega)
    omega
theorem rep_name {c n : Nat} (h : 97 ≤ c ∧ c ≤ 122) (h1 : 1 ≤ n) (h8 : n ≤ 8) : IsName (Txt.mul ⟨#[c]⟩ (n : Int)) := by
  have e := mul_one_codes c n h1
  have l : (Txt.mul ⟨#[c]⟩ (n : Int)).length = n := by rw [← len_codes, e, List.length_replicate]
  refine ⟨by omega, by omega, fun d hd => ?_⟩
  rw [e] at hd
  rw [List.eq_of_mem_replicate hd]
  exact h
def rMulS : R2 := fun x y H Q => ∃ z n, x = .str z ∧ y = .int n ∧ MulOk z n ∧ Q (.str (Txt.mul z n)) H
theorem op_mulS {X : Cx} : OpR X (binaryOp .Mult) rMulS := by
  intro pins s σ H x y v u Q I rx ry h
  obtain ⟨i, j, rfl, rfl, hz, q⟩ := h
  obtain ⟨t, rfl⟩ := rx
  obtain ⟨t', rfl⟩ := ry
  exact SB.mul hz (fun t' tk => ⟨.str (Txt.mul i j), H, I.tok _, ⟨_, rfl⟩, q⟩)
theorem glueL_nil : ∀ ys : List Str, StrLaws.glueL [] ys = (ys.map (·.cps.toList)).flatten
  | [] => rfl
  | p :: r => by
    show [] ++ (p.cps.toList ++ StrLaws.glueL [] r) = _
    rw [glueL_nil r]
    simp
theorem join_empty_codes (ys : List Str) : (Txt.join Str.empty ys).cps.toList = (ys.map (·.cps.toList)).flatten := by
  cases ys with
  | nil => rfl
  | cons p r =>
    show (PySem.Builtin.Str.glued Str.empty (p :: r)).cps.toList = _
    rw [StrLaws.glued_list]
    show p.cps.toList ++ StrLaws.glueL [] r = _
    rw [glueL_nil]
    simp
/-- what '' joins out of single letters -/
theorem join_ones {ns : List Str} (h : ∀ z ∈ ns, ∃ c, z = ⟨#[c]⟩ ∧ 97 ≤ c ∧ c ≤ 122) : (Txt.join Str.empty ns).length = ns.length ∧ Low (Txt.join Str.empty ns) := by
  have e := join_empty_codes ns
  constructor
  · rw [← len_codes, e]
    clear e
    induction ns with
    | nil => rfl
    | cons z r ih =>
      obtain ⟨c, rfl, _⟩ := h _ List.mem_cons_self
      have := ih fun z hz => h z (List.mem_cons_of_mem _ hz)
      simp only [List.map_cons, List.flatten_cons, List.length_append, List.length_cons, this]
      simp
      omega
  · intro d hd
    rw [e] at hd
    obtain ⟨l, hl, hd⟩ := List.mem_flatten.mp hd
    obtain ⟨z, hz, rfl⟩ := List.mem_map.mp hl
    obtain ⟨c, rfl, hc⟩ := h z hz
    have : d = c := by simpa using hd
    rw [this]
    exact hc
theorem sum_ones {ns : List Str} (h : ∀ z ∈ ns, ∃ c, z = ⟨#[c]⟩ ∧ 97 ≤ c ∧ c ≤ 122) : (ns.map (·.length)).sum = ns.length := by
  induction ns with
  | nil => rfl
  | cons z r ih =>
    obtain ⟨c, rfl, _⟩ := h _ List.mem_cons_self
    have := ih fun z hz => h z (List.mem_cons_of_mem _ hz)
    rw [List.map_cons, List.sum_cons, this, List.length_cons]
    show 1 + _ = _
    omega
end Und
namespace Und
open PySem PySem.Spec PyProof.Rows L2
/-! ### the rules with the written part named -/
section
variable {X : Cx} {K : PySem.W.Frag}
theorem ixL (h : X.K = K := by rfl) : IxR X (rIxL K) := h ▸ ix_list
theorem ixT (h : X.K = K := by rfl) : IxR X (rIxT K) := h ▸ ix_tup
theorem slL (h : X.K = K := by rfl) : SlR X (rSlL K) := h ▸ sl_list
theorem slT (h : X.K = K := by rfl) : SlR X (rSlA K) := h ▸ sl_tupA
theorem opCatT (h : X.K = K := by rfl) : OpR X (binaryOp .Add) (rCatA K) := h ▸ op_catA
def rLn (K : PySem.W.Frag) : List V → Hp → VK → Prop := fun xs H Q => ∃ p ys, xs = [.ref p] ∧ (SqL K H p ys ∨ SqT K H p ys) ∧ Q (.int ys.length) H
theorem callLn (h : X.K = K := by rfl) : CallR X (.builtin "len") (rLn K) := h ▸ call_len_seq
def rLnS : List V → Hp → VK → Prop := fun xs H Q => ∃ z, xs = [.str z] ∧ z.length ≤ sizeLine ∧ Q (.int z.length) H
theorem callLnS : CallR X (.builtin "len") rLnS := call_len_str
theorem crAll (hc : X.calm = true) (h : X.K = K := by rfl) : CallR X (.builtin "all") (rAll K) := h ▸ cr_all hc
theorem crAny (hc : X.calm = true) (h : X.K = K := by rfl) : CallR X (.builtin "any") (rAny K) := h ▸ cr_any hc
def rTupOf (K : PySem.W.Frag) : List V → Hp → VK → Prop := fun xs H Q => ∃ p ys, xs = [.ref p] ∧ ((SqL K H p ys ∧ ∀ l, H l = none → Q (.ref l) (upd H l (.tup ys))) ∨ (SqT K H p ys ∧ Q (.ref p) H))
theorem callTupOf (h : X.K = K := by rfl) : CallR X (.type "tuple") (rTupOf K) := h ▸ call_tuple_of
def rLstOf (K : PySem.W.Frag) : List V → Hp → VK → Prop := fun xs H Q => ∃ p ys, xs = [.ref p] ∧ (SqL K H p ys ∨ SqT K H p ys) ∧ ∀ l, H l = none → Q (.ref l) (upd H l (.lst ys))
theorem callLstOf (h : X.K = K := by rfl) : CallR X (.type "list") (rLstOf K) := h ▸ call_list_of
def rMin2 : List V → Hp → VK → Prop := fun xs H Q => ∃ i j, xs = [.int i, .int j] ∧ Q (.int (if j < i then j else i)) H
theorem callMin2 (hc : X.calm = true) : CallR X (.builtin "min") rMin2 := call_min2 hc
def rMax2 : List V → Hp → VK → Prop := fun xs H Q => ∃ i j, xs = [.int i, .int j] ∧ Q (.int (if j > i then j else i)) H
theorem callMax2 (hc : X.calm = true) : CallR X (.builtin "max") rMax2 := call_max2 hc
theorem opIn (h : X.K = K := by rfl) : OpR X (compareOp .In) (rIn K false) := h ▸ op_in_seq
theorem opNotIn (h : X.K = K := by rfl) : OpR X (compareOp .NotIn) (rIn K true) := h ▸ op_notIn_seq
theorem opEqD (hu : X.A.units + 64 < cLine) (h : X.K = K := by rfl) : OpR X (compareOp .Eq) (rEqD K) := h ▸ op_eqD hu
theorem opNeD (hu : X.A.units + 64 < cLine) (h : X.K = K := by rfl) : OpR X (compareOp .NotEq) (rNeD K) := h ▸ op_neD hu
theorem piList {tg l : Expr} {tl : TE} (hl : PE X l tl) (h : X.K = K := by rfl) : PI X tg l (iList K tl) := h ▸ pi_list hl
theorem piTup {tg l : Expr} {tl : TE} (hl : PE X l tl) (h : X.K = K := by rfl) : PI X tg l (iTup K tl) := h ▸ pi_tup hl
theorem peFld {e : Expr} {f : Str} {pos : Pos} {ta : TE} (he : PE X e ta) (hb : attributeBase e f X.env (eval e X.env) = eval e X.env) (h : X.K = K := by rfl) : PE X (.Attribute e f pos) (tFld K ta f) := h ▸ pe_fld he hb
def rJoin (K : PySem.W.Frag) : V → List V → Hp → VK → Prop := fun x xs H Q => ∃ a p, ∃ ys : List Str, x = .str a ∧ xs = [.ref p] ∧ (SqL K H p (ys.map V.str) ∨ SqT K H p (ys.map V.str)) ∧ (ys.map (·.length)).sum + ys.length * a.length ≤ 16777216 ∧ Q (.str (Txt.join a ys)) H
theorem peJoin {o e : Expr} {to te : TE} {apos pos : Pos} (ho : PE X o to) (he : PE X e te) (h : X.K = K := by rfl) (hs : starEach [e] X.env = [(false, eval e X.env)] := by rfl) (hbase : attributeBase o "join" X.env (eval o X.env) = eval o X.env := by rfl) (hline : (apos.endLine == pos.line) = true := by rfl) :
    PE X (.Call (.Attribute o "join" apos) [e] [] pos) (tM1 (rJoin K) to te) := h ▸ pe_join ho he hs hbase hline
theorem pgTup {es : List Expr} {k : Nat} {t : TGs} {n : Nat} {pos : Pos} (hc : X.calm = true) (ht : PGs X es t) (h : X.K = K := by rfl) (hn : (assignEach es X.env).length = n := by rfl) (hst : (assignEach es X.env).findIdx? (·.1) = none := by rfl) :
    PG X (.Tuple es k pos) (gTup K n t) := h ▸ pg_tup hc ht hn hst
end
section
variable {K : PySem.W.Frag} {σ : L2.St} {H : Hp} {Q : VK} {v : V} {p a b : Addr} {xs ys : List V} {lo hi : Option Int} {ta tb : TE}
theorem c_lnL (e : SqL K H p ys) (h : Q (.int ys.length) H) : rLn K [.ref p] H Q := ⟨p, ys, rfl, .inl e, h⟩
theorem c_lnT (e : SqT K H p ys) (h : Q (.int ys.length) H) : rLn K [.ref p] H Q := ⟨p, ys, rfl, .inr e, h⟩
theorem c_lnS {z : Str} (e : z.length ≤ 100000) (h : Q (.int z.length) H) : rLnS [.str z] H Q := ⟨z, rfl, sz e, h⟩
theorem c_all {bs : List Bool} (e : SqL K H p (bs.map V.bl)) (h : Q (.bl (bs.all id)) H) : rAll K [.ref p] H Q := ⟨p, bs, rfl, e, h⟩
theorem c_any {bs : List Bool} (e : SqL K H p (bs.map V.bl)) (h : Q (.bl (bs.any id)) H) : rAny K [.ref p] H Q := ⟨p, bs, rfl, e, h⟩
theorem c_tupOfL (e : SqL K H p ys) (h : ∀ l H2, H l = none → Same H H2 → H2 l = some (.tup ys) → Q (.ref l) H2) : rTupOf K [.ref p] H Q := ⟨p, ys, rfl, .inl ⟨e, fun l nl => h l _ nl (same_new nl) upd_same⟩⟩
theorem c_tupOfT (e : SqT K H p ys) (h : Q (.ref p) H) : rTupOf K [.ref p] H Q := ⟨p, ys, rfl, .inr ⟨e, h⟩⟩
theorem c_lstOfL (e : SqL K H p ys) (h : ∀ l H2, H l = none → Same H H2 → H2 l = some (.lst ys) → Q (.ref l) H2) : rLstOf K [.ref p] H Q := ⟨p, ys, rfl, .inl e, fun l nl => h l _ nl (same_new nl) upd_same⟩
theorem c_lstOfT (e : SqT K H p ys) (h : ∀ l H2, H l = none → Same H H2 → H2 l = some (.lst ys) → Q (.ref l) H2) : rLstOf K [.ref p] H Q := ⟨p, ys, rfl, .inr e, fun l nl => h l _ nl (same_new nl) upd_same⟩
theorem c_min2 {i j : Int} (h : Q (.int (min i j)) H) : rMin2 [.int i, .int j] H Q := ⟨i, j, rfl, by
  have e : (if j < i then j else i) = min i j := by
    split <;> omega
  rw [e]
  exact h⟩
theorem c_max2 {i j : Int} (h : Q (.int (max i j)) H) : rMax2 [.int i, .int j] H Q := ⟨i, j, rfl, by
  have e : (if j > i then j else i) = max i j := by
    split <;> omega
  rw [e]
  exact h⟩
/-- t + u of tuples: some tuple, the left, the right or a new one -/
theorem c_catT (ea : SqT K H a xs) (eb : SqT K H b ys) (z : xs.length + ys.length ≤ 100000) (h : ∀ p H2, Same H H2 → SqT K H2 p (xs ++ ys) → Q (.ref p) H2) : rCatA K (.ref a) (.ref b) H Q := by
  refine ⟨a, b, xs, ys, rfl, rfl, ea, eb, sz z, fun e => h b H (Same.refl H) ?_, fun _ e => h a H (Same.refl H) ?_, fun _ _ p np => h p _ (same_new np) (.inl (.inl upd_same))⟩
  · rw [e]
    exact eb
  · rw [e, List.append_nil]
    exact ea
theorem cutV_whole {xs : List V} (h : HT.sIx xs.length 0 lo = 0 ∧ HT.sIx xs.length xs.length hi = xs.length) : cutV xs lo hi = xs := by
  unfold cutV
  rw [h.1, h.2, List.drop_zero, Nat.sub_zero, List.take_length]
theorem c_slT (e : SqT K H a xs) (h : ∀ p H2, Same H H2 → SqT K H2 p (cutV xs lo hi) → Q (.ref p) H2) : rSlA K (.ref a) lo hi H Q := by
  refine ⟨a, xs, rfl, e, fun w => h a H (Same.refl H) ?_, fun _ p np => h p _ (same_new np) (.inl (.inl upd_same))⟩
  rw [cutV_whole w]
  exact e
theorem c_ixS {z : Str} {k : Int} {c : Nat} (hz : z.length ≤ 100000) (j : Nat) (hk : k = (j : Int)) (hc : z.cps.toList[j]? = some c) (h : Q (.str ⟨#[c]⟩) H) : rIxS (.str z) (.int k) H Q :=
  ⟨z, k, c, rfl, rfl, sz hz, by rw [hk]; exact atI_nat hc, h⟩
theorem c_slS {z : Str} (hz : z.length ≤ 100000) (h : Q (.str (cutS z lo hi)) H) : rSlS (.str z) lo hi H Q := ⟨z, rfl, sz hz, h⟩
theorem c_mulS {z : Str} {n : Int} (hz : MulOk z n) (h : Q (.str (Txt.mul z n)) H) : rMulS (.str z) (.int n) H Q := ⟨z, n, rfl, rfl, hz, h⟩
theorem c_m1 {r : V → List V → Hp → VK → Prop} (h : ta σ H fun x H1 => (∃ a, x = .str a) ∧ tb σ H1 fun y H2 => r x [y] H2 Q) : tM1 r ta tb σ H Q := h
theorem c_isS {z : Str} {R : Prop} (h : R) : (∃ a, V.str z = .str a) ∧ R := ⟨⟨z, rfl⟩, h⟩
theorem c_joinL {z : Str} {ns : List Str} (e : SqL K H p (ns.map V.str)) (hz : (ns.map (·.length)).sum + ns.length * z.length ≤ 16777216) (h : Q (.str (Txt.join z ns)) H) : rJoin K (.str z) [.ref p] H Q := ⟨z, p, ns, rfl, rfl, .inl e, hz, h⟩
def rAddS : R2 := fun x y H Q => ∃ i j, x = .str i ∧ y = .str j ∧ i.length + j.length ≤ sizeLine ∧ Q (.str (i ++ j)) H
theorem opAddS {X : Cx} : OpR X (binaryOp .Add) rAddS := op_add_str
theorem c_addS {x y : Str} (hz : x.length + y.length ≤ 100000) (h : Q (.str (x ++ y)) H) : rAddS (.str x) (.str y) H Q := ⟨x, y, rfl, rfl, sz hz, h⟩
end
end Und
/-! enumerate over a tuple -/
namespace Und
open PySem PySem.Spec PyProof.Rows L2
section
variable {prog : Program} {w : World} {A : Around} {E : Value → Shared → Prop} {s : Shared}
/-- the next item of a tuple's iterator, asked by another builtin -/
theorem next_tup {it t : Addr} {i : Nat} {its : Array Value} {x : Value} {Q : Value → Shared → Prop} (hi : s.heap.IsTupleIter it t i) (ht : s.heap.IsTuple t its) (hx : its[i]? = some x)
    (q : ∀ h', h'.IsTupleIter it t (i + 1) → Heap.SameBut it s.heap h' → Q x { s with heap := h' }) : wpAny (model prog w) A (Builtin.SmallTypes.nextOf (.ref it)) Q E s := by
  obtain ⟨oi, gi, ci, di⟩ := id hi
  obtain ⟨ot, gt, _, nt, dt⟩ := ht
  unfold Builtin.SmallTypes.nextOf
  refine wpAny_bind (wpAny_callSpecial?_slot (name := Str.ofString "__next__") hi.typeIs F.slot_tuple_iterator_next (wpAny_call_entry F.slot_tuple_iterator_next hi.typeIs F.entry_tuple_iterator_next ?_ (F.args_tuple_iterator_next_1 _)))
  show wpAny _ _ (field (.ref it) 0 >>= _) _ _ s
  refine wpAny_bind (wpAny_field gi di (x := .ref t) rfl ?_)
  show wpAny _ _ (if (Value.ref t == Value.none) = true then _ else _) _ _ s
  rw [if_neg (show ¬ ((Value.ref t == Value.none) = true) from Bool.false_ne_true)]
  show wpAny _ _ (field (.ref it) 1 >>= _) _ _ s
  refine wpAny_bind (wpAny_field gi di (x := .int i 0) rfl ?_)
  show wpAny _ _ (seqItems? (.ref t) >>= _) _ _ s
  refine wpAny_bind (wpAny_seqItems gt dt ?_)
  simp only [Int.toNat_natCast, hx]
  refine wpAny_bind (wpAny_setField gi di (by simp) (wpAny_pure ⟨x, rfl, wpAny_pure (q _ ⟨_, Heap.get?_update_self _ gi (Obj.isFreed_of_fields (Obj.data_mapFields di _)), (Obj.cls_mapFields ..).trans ci, ?_⟩ (Heap.SameBut.update ..))⟩))
  rw [Obj.data_mapFields di]
  simp [rawInt]
theorem next_tup_end {it t : Addr} {i : Nat} {its : Array Value} {Q : Value → Shared → Prop} (hh : A.handled = none) (hi : s.heap.IsTupleIter it t i) (ht : s.heap.IsTuple t its) (hx : its[i]? = none)
    (q : ∀ h' e, Heap.ExtBut it s.heap h' → (∃ o, h'.get? e = some o ∧ o.cls = .type "StopIteration") → E (.ref e) { s with heap := h' }) : wpAny (model prog w) A (Builtin.SmallTypes.nextOf (.ref it)) Q E s := by
  obtain ⟨oi, gi, ci, di⟩ := id hi
  obtain ⟨ot, gt, _, nt, dt⟩ := ht
  unfold Builtin.SmallTypes.nextOf
  refine wpAny_bind (wpAny_callSpecial?_slot (name := Str.ofString "__next__") hi.typeIs F.slot_tuple_iterator_next (wpAny_call_entry F.slot_tuple_iterator_next hi.typeIs F.entry_tuple_iterator_next ?_ (F.args_tuple_iterator_next_1 _)))
  show wpAny _ _ (field (.ref it) 0 >>= _) _ _ s
  refine wpAny_bind (wpAny_field gi di (x := .ref t) rfl ?_)
  show wpAny _ _ (if (Value.ref t == Value.none) = true then _ else _) _ _ s
  rw [if_neg (show ¬ ((Value.ref t == Value.none) = true) from Bool.false_ne_true)]
  show wpAny _ _ (field (.ref it) 1 >>= _) _ _ s
  refine wpAny_bind (wpAny_field gi di (x := .int i 0) rfl ?_)
  show wpAny _ _ (seqItems? (.ref t) >>= _) _ _ s
  refine wpAny_bind (wpAny_seqItems gt dt ?_)
  simp only [Int.toNat_natCast, hx]
  refine wpAny_bind (wpAny_rule (wpAny_bind (wpAny_setField gi di (by simp) ?_)))
  show wpAny _ _ (newExc (.type "StopIteration") [] >>= _) _ _ _
  refine wpAny_bind ?_
  simp only [newExc, newTuple]
  refine wpAny_bind (wpAny_newObj_type ?_ (by size_fits))
  refine wpAny_bind (m := firstArgMember _ _) (wpAny_of_eq (a := Value.none) (by first | rfl | (simp only [firstArgMember]; rfl)) ?_)
  refine wpAny_newObj_type ?_ (by size_fits)
  simp only [raiseNew]
  refine wpAny_bind (wpAny_handled ?_)
  first | rw [show A.in1.handled = none from hh] | rw [hh]
  refine wpAny_bind (wpAny_pure (wpAny_throw ?_))
  exact q _ _ (((Heap.SameBut.update ..).extBut.push _).push _) ⟨_, Heap.get?_push_size _ rfl, rfl⟩
/-- a tuple's iterator is drawn from -/
theorem draws_tup (hh : A.handled = none) (it t : Addr) (ne : t ≠ it) (its : Array Value) : Draws prog w A it [it, t] its.size (fun i v => its[i]? = some v) (fun i h => h.IsTupleIter it t i ∧ h.IsTuple t its) where
  live := fun _ _ st => let ⟨o, ho, _⟩ := st.1; ⟨o, ho⟩
  frame := fun _ _ _ st k => ⟨st.1.at fun o e => k it (by simp) o e, let ⟨o, ho, r⟩ := st.2; ⟨o, k t (by simp) o ho, r⟩⟩
  item := fun i s Q E hi st q => next_tup st.1 st.2 (x := its[i]) (by simp [hi]) fun h' i' sb => q _ h' s.toks (by simp [hi]) ⟨i', st.2.extBut sb.extBut ne⟩ sb
  done := fun s Q E st q => next_tup_end hh st.1 st.2 (by simp) q
end
theorem meets_enum_tup (l : Addr) (items : Array Value) (n : Nat) (dct : Option Addr) (sl : Array (Option Value)) :
    Meets (Builtin.«enumerate.__new__» ⟨[.type "enumerate", .ref l], []⟩) (fun _ R s => s.heap.get? l = some { cls := .type "tuple", dict := dct, data := .seq items n, slots := sl } ∧
      R (.ok (.ret (.ref (s.heap.push { cls := .type "tuple_iterator", data := .fields #[.ref l, .int 0 0] }).objs.size)))
        { s with heap := (s.heap.push { cls := .type "tuple_iterator", data := .fields #[.ref l, .int 0 0] }).push { cls := .type "enumerate", data := .fields #[.none, .bool false, .ref s.heap.objs.size, rawInt 0, .none, .none] } }) :=
  .of_wp fun prog w A R s h => by
    obtain ⟨hp, g, d, tk, os⟩ := s
    obtain ⟨hl, h⟩ := h
    have hsub := sub_enumerate
    have hL : Heap.IsTuple (Shared.heap ⟨hp, g, d, tk, os⟩) l items := ⟨_, hl, rfl, n, rfl⟩
    wp_walk using AutoSeq1.wpAny_loadPart' hl
    refine wpAny_stack_any fun st => wpAny_pure ?_
    split
    · rename_i c _ _ _ _ _
      cases (c == Value.type "enumerate") <;> (wp_walk using AutoSeq1.wpAny_loadPart' hl, wpAny_pyIter_tuple hL; exact ⟨_, rfl, h⟩)
    · wp_walk using AutoSeq1.wpAny_loadPart' hl, wpAny_pyIter_tuple hL
      exact ⟨_, rfl, h⟩

section
variable {prog : Program} {w : World} {A : Around} {E : Value → Shared → Prop} {s : Shared}
theorem call_enum_tup {t : Addr} {its : Array Value} {Q : Value → Shared → Prop} (ht : s.heap.IsTuple t its)
    (h : ∀ h', IsEnum h' (s.heap.objs.size + 1) s.heap.objs.size 0 .none → h'.IsTupleIter s.heap.objs.size t 0 → (∀ b o, s.heap.get? b = some o → h'.get? b = some o) → Q (.ref (s.heap.objs.size + 1)) { s with heap := h' }) :
    wpAny (model prog w) A (call (.type "enumerate") [.ref t]) Q E s := by
  obtain ⟨⟨c, dc, dt, sl⟩, gt, ct, n, dd⟩ := ht
  replace ct : c = .type "tuple" := ct
  replace dd : dt = .seq its n := dd
  subst ct dd
  refine callType_new F.called_enumerate (by decide) (F.typeCall_enumerate_1 _) (F.newCall_enumerate_1 _) (fun obj => F.args_object_init_2 obj _) F.entry_enumerate_new (meets_enum_tup t its n dc sl) ⟨gt, ?_⟩
  have z : (s.heap.push { cls := .type "tuple_iterator", data := .fields #[.ref t, .int 0 0] }).objs.size = s.heap.objs.size + 1 := Heap.size_push ..
  show _ ∧ _
  rw [z]
  have e : IsEnum ((s.heap.push { cls := .type "tuple_iterator", data := .fields #[.ref t, .int 0 0] }).push { cls := .type "enumerate", data := .fields #[.none, .bool false, .ref s.heap.objs.size, rawInt 0, .none, .none] })
      (s.heap.objs.size + 1) s.heap.objs.size 0 .none := by
    have e0 := Heap.get?_push_size (s.heap.push { cls := .type "tuple_iterator", data := .fields #[.ref t, .int 0 0] }) (o := { cls := .type "enumerate", data := .fields #[.none, .bool false, .ref s.heap.objs.size, rawInt 0, .none, .none] }) rfl
    rw [z] at e0
    exact e0
  exact ⟨⟨_, e, rfl⟩, h _ e ⟨_, Heap.get?_push_of_some _ (Heap.get?_push_size _ rfl), rfl, rfl⟩ fun b o x => Heap.get?_push_of_some _ (Heap.get?_push_of_some _ x)⟩
end
/-- the tuple at a, each item in a new pair -/
def ItE (K : PySem.W.Frag) (a : Addr) : It :=
  ⟨fun i H => ∃ (xs : List V) (x : V), SqT K H a xs ∧ xs[i]? = some x, fun i H v H' => ∃ T x, v = .ref T ∧ H T = none ∧ H' = upd H T (.tup [.int (i : Nat), x]) ∧ ∀ xs, SqT K H a xs → xs[i]? = some x, fun i H => ∃ xs : List V, SqT K H a xs ∧ xs.length = i⟩
theorem tup_inj {X : Cx} {pins : List (Addr × Obj)} {σ : L2.St} {H : Hp} {s : Shared} {a : Addr} {xs ys : List V} (I : Inv X pins σ H s) (hx : SqT X.K H a xs) (hy : SqT X.K H a ys) : xs = ys := I.tuple_inj hx hy
theorem turn_enumT {P : Program} {w : World} {K : PySem.W.Frag} {elts : List Expr} {kk : Nat} {tpos : Pos} (a e it : Addr) (hat : a ≠ it) :
    Turn P w K (.Tuple elts kk tpos) (ItE K a) [e, it] e (fun i h => (∃ old, IsEnum h e it ((i : Nat) : Int) old) ∧ h.IsTupleIter it a i ∧ e ≠ it ∧ e ≠ a) where
  mem := by simp
  obj := fun i h st b hb => by
    obtain ⟨⟨old, he⟩, ⟨o, ho, hc, hd⟩, _⟩ := st
    have z : b = e ∨ b = it := by simpa using hb
    rcases z with z | z
    · subst z
      exact ⟨_, he, fun v q => nomatch q⟩
    · subst z
      exact ⟨o, ho, fun v q => by rw [hd] at q; cases q⟩
  keep := fun i h h' st k => let ⟨⟨old, he⟩, hi, ne, na⟩ := st; ⟨⟨old, k e (by simp) _ he⟩, hi.at fun o q => k it (by simp) o q, ne, na⟩
  item := by
    intro X hP hw hK hc i pins s σ H E I hf st hg
    subst hP hw hK
    obtain ⟨⟨old, he⟩, hit, ne, na⟩ := st
    obtain ⟨xs, x, hq, hx⟩ := hg
    obtain ⟨its, rv, ht, hz⟩ := I.tuple hq
    obtain ⟨u, hu, ru⟩ := rv.get hx
    have hel : e < s.heap.objs.size := Heap.lt_size he
    have hil : it < s.heap.objs.size := by
      obtain ⟨_, q, _⟩ := hit
      exact Heap.lt_size q
    have hlt : i < its.toArray.size := by
      rw [List.size_toArray]
      exact (List.getElem?_eq_some_iff.mp hu).1
    refine wpAny_pyNext_enum_itemD (draws_tup (A := X.A.in1) (I.ok.hd hc) it a hat its.toArray) he ⟨hit, ht⟩ hlt ne (by simp [ne, na]) fun y h' tk hy ho st' hT hsz hk => ?_
    have ey : y = u := by
      have h1 : its[i]? = some y := by simpa using hy
      rw [hu] at h1
      exact (Option.some.inj h1).symm
    subst ey
    refine ⟨_, rfl, wpAny_letOwnedTupleGo_enum (s := { s with heap := h', toks := tk + 1 }) ho fun h'' he' sb => ?_⟩
    have hT2 : h''.get? s.heap.objs.size = some { cls := .type "tuple", data := .seq #[.int i tk, y] } := (sb.2 _ (Nat.ne_of_gt hel)).trans hT
    have new : ObjOk X.prog X.w (upd H s.heap.objs.size (.tup [.int (i : Nat), x])) h'' s.heap.objs.size (.tup [.int (i : Nat), x]) :=
      ⟨by show 2 ≤ sizeLine; decide, [.int i tk, y], .cons ⟨_, rfl⟩ (.cons ru .nil), ⟨_, hT2, rfl, _, rfl⟩⟩
    have I1 : Inv X pins σ (upd H s.heap.objs.size (.tup [.int (i : Nat), x])) { s with heap := h'', toks := tk + 1 } :=
      I.turnedNew (ch := [e, it]) (fun b ob hb q => (sb.2 b (fun z => hb (by simp [z]))).trans (hk b ob (fun z => hb (by simp [z])) (fun z => hb (by simp [z])) q)) hf (Nat.le_refl _) new
    refine ⟨.ref s.heap.objs.size, _, I1, rfl, ⟨_, x, rfl, I.hok.fresh (Nat.le_refl _), rfl, fun ys hy => ?_⟩, ⟨⟨y, ?_⟩, st'.1.at fun o q => (sb.2 it (Ne.symm ne)).trans q, ne, na⟩, fun b hb => ?_⟩
    · rw [tup_inj I hy hq]
      exact hx
    · have e1 : ((i + 1 : Nat) : Int) = (i : Int) + 1 := by omega
      rw [e1]
      exact he'
    · have hb' : b < s.heap.objs.size := by
        have z : b = e ∨ b = it := by simpa using hb
        rcases z with z | z
        · rw [z]
          exact hel
        · rw [z]
          exact hil
      rw [upd_ne (Nat.ne_of_lt hb')]
      exact (hf b hb).1
  done := by
    intro X hP hw hK hc i pins s σ H E I hf st hg
    subst hP hw hK
    obtain ⟨⟨old, he⟩, hit, ne, na⟩ := st
    obtain ⟨xs, hq, hx⟩ := hg
    obtain ⟨its, rv, ht, hz⟩ := I.tuple hq
    obtain ⟨f0, f1, f2, f3, f4, f5⟩ := hf it (by simp)
    have hl := rv.length
    have ei : i = its.toArray.size := by rw [List.size_toArray, ← hl, hx]
    refine wpAny_pyNext_enum_endD (draws_tup (A := X.A.in1) (I.ok.hd hc) it a hat its.toArray) he ⟨by rw [← ei]; exact hit, ht⟩ fun h' eb => ⟨rfl, I.turned (t' := s.toks) (fun b o hb q => eb b o hb q) f0 f1 f3 f4 f5⟩
  self := fun A i s Q E st h => let ⟨⟨_, he⟩, _⟩ := st; wpAny_pyIter_enum he h
def iEnumT (K : PySem.W.Frag) (ta : TA) : TI := fun σ H R => ta σ H fun vs H1 => ∃ a xs, vs = [.ref a] ∧ SqT K H1 a xs ∧ R (ItE K a) H1
theorem pi_enumT {X : Cx} {K : PySem.W.Frag} {e : Expr} {ta : TA} {p pos tpos : Pos} {elts : List Expr} {kk : Nat} (hg : Gl X "enumerate") (hm : X.mg "enumerate" = none) (ha : PA X [e] ta) (hK : X.K = K := by rfl) (hs : starEach [e] X.env = [(false, eval e X.env)] := by rfl) :
    PI X (.Tuple elts kk tpos) (.Call (.Name "enumerate" p) [e] [] pos) (iEnumT K ta) := by
  subst hK
  refine ⟨fun pins s σ H R I h => ?_⟩
  refine Call_ (ld_blt I hg hm boot_enumerate (PyProof.Rows.callWith_type1 (thn (ha.run pos pins s σ H _ I h) fun us s1 ⟨vs, H1, I1, r1, q1⟩ => ?_) hs rfl))
  obtain ⟨a, xs, ex, hq, q⟩ := q1
  subst ex
  cases r1 with
  | cons r rr =>
    cases rr
    cases r
    obtain ⟨its, rv, ht, hz⟩ := I1.tuple hq
    have hal : a < s1.heap.objs.size := ht.lt
    refine call_enum_tup ht fun h' he hit hk => wpAny_pyIter_enum he ?_
    have I2 : Inv X pins σ H1 { s1 with heap := h' } := I1.kept (t' := s1.toks) hk
    refine ⟨s1.heap.objs.size + 1, [s1.heap.objs.size + 1, s1.heap.objs.size], _, _, H1, rfl, I2, turn_enumT a (s1.heap.objs.size + 1) s1.heap.objs.size (Nat.ne_of_lt hal), ⟨⟨.none, he⟩, hit, Nat.succ_ne_self _, Nat.ne_of_gt (Nat.lt_succ_of_lt hal)⟩, fun b hb => ?_, q⟩
    have z : b = s1.heap.objs.size + 1 ∨ b = s1.heap.objs.size := by simpa using hb
    have hle : s1.heap.objs.size ≤ b := by
      rcases z with z | z
      · rw [z]
        exact Nat.le_succ _
      · rw [z]
        exact Nat.le_refl _
    exact I1.fpOk hle (I1.hok.fresh hle)
/-- the turns of such a loop: the item in a new pair -/
theorem for_enumT {K : PySem.W.Frag} {a : Addr} {xs : List V} {g : TG} {tb : TS} {D : Ends} {σ : L2.St} {H : Hp} (Pv : Nat → L2.St → Hp → Prop) (h0 : Pv 0 σ H) (hl : ∀ i σ H, i ≤ xs.length → Pv i σ H → SqT K H a xs)
    (hs : ∀ i x T σ H, xs[i]? = some x → Pv i σ H → H T = none → g (.ref T) σ (upd H T (.tup [.int (i : Nat), x])) fun σ2 H2 => tb { D with nx := Pv (i + 1), ct := Pv (i + 1), bk := D.nx } σ2 H2) (hd : ∀ σ H, Pv xs.length σ H → D.nx σ H) :
    ∃ W : Nat → Nat → L2.St → Hp → Prop, (∃ m, W 0 m σ H) ∧ ∀ i m σ H, W i m σ H →
      ((ItE K a).stop i H ∧ D.nx σ H) ∨ ((ItE K a).go i H ∧ ∃ N : L2.St → Hp → Prop, (∀ σ' H', N σ' H' → ∃ m', m' < m ∧ W (i + 1) m' σ' H') ∧ ∀ x H', (ItE K a).yld i H x H' → g x σ H' fun σ2 H2 => tb { D with nx := N, ct := N, bk := D.nx } σ2 H2) := by
  refine ⟨fun i m σ H => m = xs.length - i ∧ i ≤ xs.length ∧ Pv i σ H, ⟨xs.length, by simp, Nat.zero_le _, h0⟩, ?_⟩
  rintro i m σ H ⟨rfl, hi, p⟩
  have q := hl i σ H hi p
  by_cases lt : i < xs.length
  · refine .inr ⟨⟨xs, xs[i], q, List.getElem?_eq_getElem lt⟩, Pv (i + 1), fun σ' H' p' => ⟨xs.length - (i + 1), by omega, rfl, lt, p'⟩, fun x H' y => ?_⟩
    obtain ⟨T, z, rfl, nT, rfl, f⟩ := y
    exact hs i z T σ H (f xs q) p nT
  · have ei : i = xs.length := by omega
    subst ei
    exact .inl ⟨⟨xs, q, rfl⟩, hd σ H p⟩
end Und
/-! == and != of two instances of a class with an own __eq__ and no __ne__ -/
namespace Und
open PySem PySem.Spec PyProof.Rows L2 Builtin
section
variable {prog : Program} {w : World} {A : Around} {E : Value → Shared → Prop} {s : Shared} {K : PySem.W.Frag} {x C f : Addr} {ox : Obj} {od : Option Obj} {y : Value}
/-- what the class at C must have for it -/
structure EqOwn (K : PySem.W.Frag) (C f : Addr) : Prop where
  eq : PySem.W.findIn K (.ref C) "__eq__" = some (some (.ref f))
  fn : PySem.W.isFn K (.ref f) = true
  ne : PySem.W.findIn K (.ref C) "__ne__" = some (some (.builtin "object.__ne__"))
  ob : PySem.W.mroIn K C (.type "object") = some true
theorem entry_ne (X : K.In s.heap) (I : PySem.W.InstAt s.heap x ox C od) (W : EqOwn K C f) (hu : A.units < cLine) {Q : Fin → Shared → Prop}
    (h : wpAny (model prog w) A (call (.ref f) [.ref x, y]) (fun v s' => ∃ b, v = .bool b ∧ Q (.done (.ret (.bool (!b)))) s') E s) : wpAny (model prog w) A (Builtin.«object.__ne__» ⟨[.ref x, y], []⟩) Q E s := by
  unfold Builtin.«object.__ne__»
  repeat (first
    | with_reducible refine wpAny_cRoomFor hu ?_
    | (refine wpAny_bind (m := callSpecialIfBound? (.ref x) (Str.ofString "__eq__") [y]) (PySem.W.ifBound_K X I W.eq W.fn (wpAny_mono h (fun r s' hr => by
        obtain ⟨b, rfl, hq⟩ := hr
        repeat (first | exact hq | exact wpAny_pure hq | exact wpAny_truthy_bool hq | (refine wpAny_bind (m := truthy (.bool _)) (wpAny_truthy_bool ?_)) | wp_step)) fun _ _ e => e)))
    | wp_step)
theorem bound_ne {M : Model} {args : List Value} {Q : Option Value → Shared → Prop} (X : K.In s.heap) (I : PySem.W.InstAt s.heap x ox C od) (W : EqOwn K C f)
    (h : wpAny M A (call (.builtin "object.__ne__") (.ref x :: args)) (fun v => Q (some v)) E s) : wpAny M A (callSpecialIfBound? (.ref x) "__ne__" args) Q E s := by
  simp only [callSpecialIfBound?, bindSpecialIfBound?]
  refine wpAny_holding (wpAny_bind (wpAny_bind (wpAny_bind (I.type.here ((PySem.W.looks_findIn X W.ne).here ?_)))))
  refine wpAny_bind (wpAny_askSetting (wpAny_ite ?_))
  have fin : wpAny M A (call (.builtin "object.__ne__") ([.ref x] ++ args) >>= fun v => pure (some v)) Q E s := wpAny_bind (wpAny_mono h (fun v s' z => wpAny_pure z) fun _ _ z => z)
  split
  · exact wpAny_bind (wpAny_of_eq (F.cmp_object.ne.bind _) (wpAny_pure (by exact fin)))
  · exact wpAny_tryCatch (wpAny_bind (wpAny_of_eq (F.cmp_object.ne.bind _) (wpAny_pure (by exact fin))))
theorem rich_ne {b : Addr} {ob : Obj} {ob' : Option Obj} (X : K.In s.heap) (I : PySem.W.InstAt s.heap x ox C od) (J : PySem.W.InstAt s.heap b ob C ob') (W : EqOwn K C f) (hu : A.units + 1 < cLine) {Q : Value → Shared → Prop}
    (h : wpAny (model prog w) A.in1 (call (.ref f) [.ref x, .ref b]) (fun v s' => ∃ k, v = .bool k ∧ Q (.bool (!k)) s') E s) : wpAny (model prog w) A (richCompare .NotEq (.ref x) (.ref b)) Q E s := by
  have one : wpAny (model prog w) A (tryCompare (.ref x) "__ne__" (.ref b)) (fun r s' => ∃ v, r = some v ∧ Q v s') E s := by
    unfold tryCompare
    refine wpAny_bind (bound_ne X I W (wpAny_call (codeAny_call_builtin F.cmp_object.ne.plain F.cmpEntry_ne (PySem.W.check_slot F.cmpKind_ne F.cmpSplit_ne (I.type.andThen (PySem.W.looks_mroIn X W.ob)) (F.cmpArgs_ne _ _)
      (entry_ne (A := A.in1) X I W hu (wpAny_mono h (fun v s' z => ?_) fun _ _ z => z))))))
    obtain ⟨k, rfl, q⟩ := z
    exact ⟨k, rfl, wpAny_pure ⟨_, rfl, q⟩⟩
  unfold richCompare
  simp only [oneThing_ref]
  refine wpAny_holding (wpAny_bind (wpAny_cRoomFor (Nat.lt_of_succ_lt hu) ?_))
  rw [cmpInfo_NotEq]
  dsimp only
  refine wpAny_bind (I.type.here (wpAny_bind (J.type.here ?_)))
  rw [show (Value.ref C != Value.ref C) = false from by simp]
  simp only [Bool.false_eq_true, if_false]
  refine wpAny_bind (wpAny_pure ?_)
  simp only [Bool.false_eq_true, if_false]
  refine wpAny_bind (wpAny_mono one (fun r s' z => ?_) fun _ _ z => z)
  obtain ⟨v, rfl, q⟩ := z
  exact wpAny_pure q
end
/-- x == y (neg: x != y), by the promise of the class's own __eq__ -/
def rOwn (C : Addr) (sp : Sp) (E : XK) (neg : Bool) : R2 := fun x y H Q => ∃ a dx fs b dy gs, x = .ref a ∧ y = .ref b ∧ H a = some (.ins C dx fs) ∧ H b = some (.ins C dy gs) ∧ sp [.ref a, .ref b] H (fun z H' => ∃ k, z = .bl k ∧ Q (.bl (if neg then !k else k)) H') E
section
variable {X : Cx} {K : PySem.W.Frag} {CX : CXT} {C f : Addr} {fd : FuncData} {ps : List Str} {n : Nat} {sp : Sp} {E : XK}
theorem own_call {A : Around} {pins : List (Addr × Obj)} {σ : L2.St} {H : Hp} {s : Shared} {a b : Addr} {Q : VK} (F : FnOk X.prog X.w X.K X.mg X.base CX n f fd ps sp) (hb : Binds X.K fd ps []) (hx : Passes CX X E) (I : Inv X pins σ H s) (hr : Room n A) (hf : A.frames = X.A.frames)
    (h : sp [.ref a, .ref b] H Q E) : wpAny (model X.prog X.w) A (call (.ref f) [.ref a, .ref b]) (EP X pins σ Q) X.xe s := by
  have e0 : Env0 X.prog X.w X.K X.mg X.base A X.stack s H := by
    have e := I.env0
    exact ⟨by rw [hf]; exact e.frames, e.mod, e.bs, e.bsz, e.funs, e.frf, e.hok, e.bare⟩
  have hl := F.len _ _ _ _ h
  have r2 : Vals [V.ref a, V.ref b] [Value.ref a, Value.ref b] := .cons rfl (.cons rfl .nil)
  refine wpAny_call (codeAny_mono (F.run A X.stack s H ⟨[.ref a, .ref b], []⟩ [.ref a, .ref b] [.ref a, .ref b] Q E hr e0 (by
    have z := hb s [.ref a, .ref b] I.kIn (by simpa using hl)
    simpa using z) r2 h) fun r s' hq => ?_)
  cases r with
  | error e => exact hx pins σ H s e s' I hq
  | ok fl =>
    cases fl with
    | ret w => exact I.after hq
    | next => exact False.elim hq
    | brk => exact False.elim hq
    | cont => exact False.elim hq
theorem opEqOwn (W : EqOwn X.K C f) (F : FnOk X.prog X.w X.K X.mg X.base CX n f fd ps sp) (hr : Room n X.A) (hb : Binds X.K fd ps []) (hx : Passes CX X E) : OpR X (compareOp .Eq) (rOwn C sp E false) := by
  intro pins s σ H x y v u Q I rx ry h
  obtain ⟨a, dx, fs, b, dy, gs, rfl, rfl, ha, hb', q⟩ := h
  cases rx
  cases ry
  obtain ⟨mA, J, _⟩ := ins_get I.hok ha
  obtain ⟨mB, J', _⟩ := ins_get I.hok hb'
  obtain ⟨od, J, _⟩ := J.look
  obtain ⟨od', J', _⟩ := J'.look
  obtain ⟨m, hF⟩ := I.fr
  show wpAny (model X.prog X.w) X.A (richCompare .Eq (.ref a) (.ref b)) (EP X pins σ Q) X.xe s
  refine PySem.W.cmp_K (op := .Eq) (tb := .ref C) hr.units0 hF I.ok.mod.kin J J'.type (by simp [PySem.W.notFirst]) W.eq W.fn ?_
  refine wpAny_mono (own_call F hb hx I hr rfl q) (fun w s' z => ?_) fun _ _ z => z
  obtain ⟨v, H', I', rv, k, rfl, qk⟩ := z
  cases rv
  exact ⟨.bl k, H', I', rfl, qk⟩
theorem opNeOwn (W : EqOwn X.K C f) (F : FnOk X.prog X.w X.K X.mg X.base CX n f fd ps sp) (hr : Room (n + 1) X.A) (hb : Binds X.K fd ps []) (hx : Passes CX X E) : OpR X (compareOp .NotEq) (rOwn C sp E true) := by
  intro pins s σ H x y v u Q I rx ry h
  obtain ⟨a, dx, fs, b, dy, gs, rfl, rfl, ha, hb', q⟩ := h
  cases rx
  cases ry
  obtain ⟨mA, J, _⟩ := ins_get I.hok ha
  obtain ⟨mB, J', _⟩ := ins_get I.hok hb'
  obtain ⟨od, J, _⟩ := J.look
  obtain ⟨od', J', _⟩ := J'.look
  have hu := hr.un
  show wpAny (model X.prog X.w) X.A (richCompare .NotEq (.ref a) (.ref b)) (EP X pins σ Q) X.xe s
  refine rich_ne I.kIn J J' W (by omega) ?_
  refine wpAny_mono (own_call F hb hx I hr.in1 rfl q) (fun w s' z => ?_) fun _ _ z => z
  obtain ⟨v, H', I', rv, k, rfl, qk⟩ := z
  cases rv
  exact ⟨k, rfl, .bl (!k), H', I', rfl, qk⟩
end
section
variable {X : Cx} {K : PySem.W.Frag}
theorem callIsi (h : X.K = K := by rfl) : CallR X (.builtin "isinstance") (rIsi K) := h ▸ call_isi
end
section
variable {K : PySem.W.Frag} {H : Hp} {Q : VK}
/-- isinstance(x, T), T a built-in class -/
theorem c_isi {x : V} {a b : String} {r : Bool} (t : TyX K H x (.type a)) (e : kitB a b = some r) (h : Q (.bl r) H) : rIsi K [x, .ty b] H Q := ⟨x, .ty b, .type a, .type b, r, rfl, .ty b, t, kit_ty e, h⟩
theorem ty_int (i : Int) : TyX K H (.int i) (.type "int") := .base (.int i)
theorem ty_bl (i : Bool) : TyX K H (.bl i) (.type "bool") := .base (.bl i)
theorem ty_str (i : Str) : TyX K H (.str i) (.type "str") := .base (.str i)
theorem ty_non : TyX K H .non (.type "NoneType") := .base .non
theorem ty_tup {a : Addr} {xs : List V} (h : SqT K H a xs) : TyX K H (.ref a) (.type "tuple") := by
  rcases h with (h | ⟨o, h⟩) | ⟨o, its, n, l, c, _⟩
  · exact .base (.tup h)
  · exact .fTuple h
  · exact .kTuple l c
end
theorem peGlobI {X : Cx} {x : Str} {n : Int} {pos : Pos} (hg : Gl X x) (hm : ∃ t, X.mg x = some (.int n t)) (hd : (x == ("__debug__" : Str)) = false := by decide) : PE X (.Name x pos) (tC (.int n)) := by
  obtain ⟨t, hm⟩ := hm
  exact pe_glob hg hm ⟨t, rfl⟩ hd
section
variable {K : PySem.W.Frag} {H : Hp} {Q : VK} {D : Addr} {Qd : Hp → Prop} {te : TE} {i0 : Nat} {vs : List Nat} {σ : L2.St} {H1 : Hp}
theorem c_str {te : TE} {R : It → Hp → Prop} (h : te σ H fun v H1 => ∃ x, v = .str x ∧ R (Its x) H1) : iStr te σ H R := h
def rLeS : R2 := fun x y H Q => ∃ i j, x = .str i ∧ y = .str j ∧ Q (.bl (!decide (j.cps.toList < i.cps.toList))) H
theorem opLeS {X : Cx} : OpR X (compareOp .LtE) rLeS := op_le_str
theorem c_leS {x y : Str} (h : Q (.bl (!decide (y.cps.toList < x.cps.toList))) H) : rLeS (.str x) (.str y) H Q := ⟨x, y, rfl, rfl, h⟩
/-- a comprehension over the signs of a text -/
theorem lc_sg (R : Nat → V → Prop) {z : Str} (nD : H1 D = none) (hn : z.length ≤ 100000) (hw : ∀ v, wipe ((wipe σ vs).set i0 (some v)) vs = wipe σ vs)
    (hs : ∀ i c H (Q' : VK), z.cps.toList[i]? = some c → Same H1 H → (∀ y H4, Same H H4 → R i y → Q' y H4) → te ((wipe σ vs).set i0 (some (.str ⟨#[c]⟩))) H Q')
    (hd : ∀ H xs, Same H1 H → H D = some (.lst xs) → xs.length = z.length → (∀ i y, xs[i]? = some y → R i y) → Qd H) : LcW (Its z) te (gName i0) tYes vs σ H1 D Qd := by
  refine ⟨fun i m H => m = z.length - i ∧ i ≤ z.length ∧ Same H1 H ∧ Acc R D i H, ⟨z.length, rfl, Nat.zero_le _, same_new nD, [], upd_same, rfl, fun j y e => by simp at e⟩, ?_⟩
  rintro i m H ⟨rfl, hi, st, xs, e, l, r⟩
  by_cases lt : i < z.length
  · refine .inr ⟨lt, fun H' => i + 1 ≤ z.length ∧ Same H1 H' ∧ Acc R D (i + 1) H', fun H' p' => ⟨z.length - (i + 1), by omega, rfl, p'⟩, fun x H' y => ?_⟩
    obtain ⟨rfl, c, ec, rfl⟩ := y
    refine ⟨hw _, c_yes ?_⟩
    rw [if_pos rfl]
    exact hs i c H' _ (by simpa using ec) st fun y H4 s4 ry => ⟨xs, s4 _ _ e, szl (by omega), lt, Same.mut (st.trans s4) nD, Acc.put l r ry⟩
  · have ei : i = z.length := by omega
    subst ei
    exact .inl ⟨Nat.le_refl _, hd H xs st e l r⟩
theorem bls_of {xs : List V} {n : Nat} (h : ∀ (i : Nat) y, xs[i]? = some y → y = V.bl true) : ∃ bs : List Bool, xs = bs.map V.bl ∧ bs.all id = true := by
  induction xs with
  | nil => exact ⟨[], rfl, rfl⟩
  | cons x r ih =>
    obtain ⟨bs, rfl, hb⟩ := ih fun i y e => h (i + 1) y e
    have := h 0 x rfl
    subst this
    exact ⟨true :: bs, rfl, by simpa using hb⟩
theorem le_one {a b : Nat} : (!decide ((⟨#[b]⟩ : Str).cps.toList < (⟨#[a]⟩ : Str).cps.toList)) = decide (a ≤ b) := by
  show (!decide ([b] < [a])) = decide (a ≤ b)
  have e : ([b] < [a]) ↔ b < a := by
    constructor
    · intro h
      cases h with
      | rel h => exact h
      | cons h => cases h
    · intro h
      exact List.Lex.rel h
  by_cases h : b < a
  · rw [decide_eq_true (e.mpr h), decide_eq_false (by omega)]
    rfl
  · rw [decide_eq_false (fun z => h (e.mp z)), decide_eq_true (by omega)]
    rfl
end
/-- a chain of two comparisons -/
theorem c_chain {r r' : R2} {ta tb tc : TE} {σ : L2.St} {H : Hp} {Q : VK} (h : ta σ H fun x H1 => tb σ H1 fun y H2 => r x y H2 fun z H3 => ∃ k, z = .bl k ∧ if k = true then (tc σ H3 fun u H4 => r' y u H4 Q) else Q (.bl false) H3) : tChain r r' ta tb tc σ H Q := h
theorem iteNT {A B : Prop} (h : B) : if (!true) = true then A else B := by
  rw [if_neg (by decide)]
  exact h
theorem iteNF {A B : Prop} (h : A) : if (!false) = true then A else B := by
  rw [if_pos (by decide)]
  exact h
theorem iteDT {p A B : Prop} [Decidable p] (hp : p) (h : A) : if decide p = true then A else B := by
  rw [if_pos (decide_eq_true hp)]
  exact h
theorem iteDF {p A B : Prop} [Decidable p] (hp : ¬ p) (h : B) : if decide p = true then A else B := by
  rw [if_neg (by rw [decide_eq_false hp]; decide)]
  exact h
theorem iteNDT {p A B : Prop} [Decidable p] (hp : p) (h : B) : if (!decide p) = true then A else B := by
  rw [decide_eq_true hp]
  exact iteNT h
theorem iteNDF {p A B : Prop} [Decidable p] (hp : ¬ p) (h : A) : if (!decide p) = true then A else B := by
  rw [decide_eq_false hp]
  exact iteNF h
theorem c_ienumT {K : PySem.W.Frag} {ta : TA} {σ : L2.St} {H : Hp} {R : It → Hp → Prop} (h : ta σ H fun vs H1 => ∃ a xs, vs = [.ref a] ∧ SqT K H1 a xs ∧ R (ItE K a) H1) : iEnumT K ta σ H R := h
section
variable {K : PySem.W.Frag} {C : Addr} {σ : L2.St} {H : Hp} {Q : VK} {ta : TE} {t : TA} {sp : Sp} {dvs : List V} {E : XK} {m : Str}
/-- C(..): a new instance and its dict, then __init__'s promise -/
def rMk (C : Addr) (sp : Sp) (E : XK) (vs : List V) (H : Hp) (Q : VK) : Prop := ∀ x dx, H x = none → H dx = none → dx ≠ x → sp (.ref x :: vs) (upd (upd H dx (.own x)) x (.ins C dx [])) (fun v H2 => v = .non ∧ Q (.ref x) H2) E
theorem c_make (h : t σ H fun vs H1 => rMk C sp E (vs ++ dvs) H1 Q) : tMake C sp dvs E t σ H Q := h
theorem c_meth (h : ta σ H fun x H1 => ∃ a dx fs, x = .ref a ∧ H1 a = some (.ins C dx fs) ∧ fs.lookup m = none ∧ t σ H1 fun vs H2 => sp (x :: (vs ++ dvs)) H2 Q E) : tMeth C m sp dvs E ta t σ H Q := h
def rPrp (C : Addr) (sp : Sp) (dvs : List V) (E : XK) (x : V) (H : Hp) (Q : VK) : Prop := ∃ a dx fs, x = .ref a ∧ H a = some (.ins C dx fs) ∧ sp (.ref a :: dvs) H Q E
theorem c_prop (h : ta σ H fun x H1 => rPrp C sp dvs E x H1 Q) : tProp C sp dvs E ta σ H Q := h
theorem c_sfld {K : PySem.W.Frag} {to tv : TE} {f : Str} {D : Ends} (h : tv σ H fun y H1 => to σ H1 fun x H2 => ∃ a C dx fs, x = .ref a ∧ H2 a = some (.ins C dx fs) ∧ Cls K C ∧ NoAttr K C f ∧ fs.length < 1000 ∧ D.nx σ (upd H2 a (.ins C dx (putF f y fs)))) : sFld K to tv f D σ H := h
end
/-- p or q, the second asked only if p is false: what follows is shown once -/
theorem c_orB {p q : Bool} {tb : TE} {σ : L2.St} {H : Hp} {Q : VK} (h0 : ∀ H2, Same H H2 → Q (.bl (p || q)) H2) (hb : p = false → ∀ Q' : VK, (∀ H2, Same H H2 → Q' (.bl q) H2) → tb σ H Q') : if p = true then Q (.bl true) H else tb σ H Q := by
  cases p with
  | true =>
    rw [if_pos rfl]
    exact h0 H (Same.refl H)
  | false =>
    rw [if_neg (by decide)]
    exact hb rfl Q fun H2 s => h0 H2 s
theorem c_andB {p q : Bool} {tb : TE} {σ : L2.St} {H : Hp} {Q : VK} (h0 : ∀ H2, Same H H2 → Q (.bl (p && q)) H2) (hb : p = true → ∀ Q' : VK, (∀ H2, Same H H2 → Q' (.bl q) H2) → tb σ H Q') : if p = true then tb σ H Q else Q (.bl false) H := by
  cases p with
  | true =>
    rw [if_pos rfl]
    exact hb rfl Q fun H2 s => h0 H2 s
  | false =>
    rw [if_neg (by decide)]
    exact h0 H (Same.refl H)
end Und
/-! defs with *names, classes made by them, instances called, + and str of instances, static methods -/
namespace Und
open PySem PySem.Spec PyProof.Rows L2
/-! ### a def f(a, .., *v) -/
structure FunS (K : PySem.W.Frag) (name qual : Str) (st : Stmt) (ps : List Str) (pv : Str) (f : Addr) : Prop where
  ex : ∃ (oc : Value) (od : Option Addr) (dV kV doc pm : Value) (an : Option Addr) (cdv ct : Value) (osl : Array (Option Value)),
    K.lookup f = some ⟨oc, od, .func (PySem.W.fnOf name qual (defArgs st) (defBody st) (defScope st) dV kV doc pm an cdv ct), osl⟩ ∧ PySem.W.codeIn K cdv qual = true ∧
    ∀ us rest : List Value, us.length = ps.length → bindArgs (PySem.W.fnOf name qual (defArgs st) (defBody st) (defScope st) dV kV doc pm an cdv ct) ⟨us ++ rest, []⟩ = (newTuple rest >>= fun t => pure (ps.zip us ++ [(pv, t)]))
  kp : PySem.W.keepIn K (.ref f) = true
def spStar (n : Nat) (sp : Sp) : Sp := fun vs H Q E => ∃ ws rest, vs = ws ++ rest ∧ ws.length = n ∧ rest.length ≤ sizeLine ∧ ∀ p, H p = none → sp (ws ++ [V.ref p]) (upd H p (.tup rest)) Q E
section
variable {P : Program} {w : World} {K : PySem.W.Frag} {mg : Str → Option Value} {base : Heap}
theorem FunS.ok {name qual pv : Str} {st : Stmt} {ps N : List Str} {f : Addr} {k : Nat} {sp : Sp} (F : FunS K name qual st ps pv f) (S : FnScope N (ps ++ [pv]) (defScope st))
    (hbody : ∀ (cdv : Value) (A : Around) (outer : List Env) (s : Shared) (H : Hp) (vs : List V) (Q : VK) (E : XK), Room k (A.deeper (envOfC qual (defScope st) s.heap.objs.size f cdv)) → sp vs H Q E →
      ∃ t, PSs (cxOf CX0 P w K mg base N qual (defScope st) f cdv A outer s H E).nox (defBody st) t ∧ t { nx := fun _ H' => Q .non H', rt := Q } (start N vs) H) : FnR P w K mg base CX0 (k + 1) f (spStar ps.length sp) := by
  obtain ⟨oc, od, dV, kV, doc, pm, an, cdv, ct, osl, lk, hcd, hb⟩ := F.ex
  refine StX.fn_star lk hcd S StX.cxUp_none hb fun A outer s H vs Q E hr hsp => ?_
  obtain ⟨t, h, q⟩ := hbody cdv A outer s H vs Q E hr hsp
  exact ⟨t, h.nox, q⟩
/-- FunD.ok where nothing is raised -/
theorem funD_ok {x qual : Str} {params : Arguments} {body : List Stmt} {scope : Scope} {dvs : List V} {kws : List (Str × V)} {f : Addr} {fd : FuncData} {N ps : List Str} {k : Nat} {sp : Sp} (F : FunD K x qual params body scope dvs kws f fd) (S : FnScope N ps scope) (len : ∀ vs H Q E, sp vs H Q E → vs.length = ps.length)
    (hbody : ∀ (cdv : Value) (A : Around) (outer : List Env) (s : Shared) (H : Hp) (vs : List V) (Q : VK) (E : XK), Room k (A.deeper (envOfC qual scope s.heap.objs.size f cdv)) → sp vs H Q E →
      ∃ t, PSs (cxOf CX0 P w K mg base N qual scope f cdv A outer s H E).nox body t ∧ t { nx := fun _ H' => Q .non H', rt := Q } (start N vs) H) : FnOk P w K mg base CX0 (k + 1) f fd ps sp :=
  F.ok S len fun cdv A outer s H vs Q E hr hsp => by
    obtain ⟨t, h, q⟩ := hbody cdv A outer s H vs Q E hr hsp
    exact ⟨t, h.nox, q⟩
end
/-! ### making by such an __init__ -/
def rMkR (C : Addr) (sp : Sp) (E : XK) (vs : List V) (H : Hp) (Q : VK) : Prop := ∀ x dx, H x = none → H dx = none → dx ≠ x → sp (V.ref x :: vs) (upd (upd H dx (.own x)) x (.ins C dx [])) (fun v H2 => v = .non ∧ Q (.ref x) H2) E
section
variable {X : Cx} {CX : CXT} {k : Nat} {f C : Addr} {sp : Sp} {E : XK} {x : Str} {e fe : Expr} {es : List Expr} {te tf : TE} {t : TA} {p pos : Pos}
theorem pe_makeR0 (M : Mk X.K C f) (F : FnR X.prog X.w X.K X.mg X.base CX k f sp) (hr : Room (k + 1) X.A) (hg : Gl X x) (hm : X.mg x = some (.ref C)) (hx : Passes CX X E) (hdb : (x == ("__debug__" : Str)) = false := by decide) :
    PE X (.Call (.Name x p) [] [] pos) (StX.tMakeR C sp E tNil) := by
  refine ⟨fun pins s σ H Q I h => ?_⟩
  refine wpAny_Call_Name_kw (ld_glob I hg hm ?_ hdb)
  exact PySem.W.callWith_K0 I.kIn M.kp (StX.run_makeR (us := []) M F hr hx I .nil h)
theorem c_makeR {σ : L2.St} {H : Hp} {Q : VK} (h : t σ H fun vs H1 => rMkR C sp E vs H1 Q) : StX.tMakeR C sp E t σ H Q := h
/-! ### a static method, off its class -/
structure CStat (K : PySem.W.Frag) (C : Addr) (mc : Value) (m : Str) (p g : Addr) : Prop where
  at_ : PySem.W.findCls K (.ref C) mc m = some (.get (.builtin "staticmethod.__get__") (.ref p) .none (.ref C))
  rc : ∃ rest, PySem.W.recIn K p "staticmethod" = some (.ref g :: rest)
  kp : PySem.W.keepIn K (.ref g) = true
def tSMeth (C : Addr) (sp : Sp) (E : XK) (ta : TE) (t : TA) : TE := fun σ H Q => ta σ H fun x H1 => x = .ref C ∧ t σ H1 fun vs H2 => sp vs H2 Q E
theorem c_smeth {σ : L2.St} {H : Hp} {Q : VK} (h : te σ H fun x H1 => x = .ref C ∧ t σ H1 fun vs H2 => sp vs H2 Q E) : tSMeth C sp E te t σ H Q := h
theorem pe_smeth {o : Expr} {m : Str} {apos : Pos} {g q : Addr} {mc : Value} {ta : TE} {pl : Sem Bool} (he : PE X o ta) (r : ClX.CRead X.K C mc) (c : CStat X.K C mc m q g) (F : FnR X.prog X.w X.K X.mg X.base CX k g sp) (hr : Room k X.A) (hx : Passes CX X E) (ha : PA X (e :: es) t)
    (hst : starEach (e :: es) X.env = (false, eval e X.env) :: starEach es X.env := by rfl) (hpl : (backTo pos (starEach es X.env)).any (·.1) = false := by rfl)
    (ht : eval (.Call (.Attribute o m apos) (e :: es) [] pos) X.env = (do
      let ov ← eval o X.env
      standAt apos.atName
      let (f, first) ← holding [ov] (getMethod ov m pl)
      callWith pos f first (backTo pos (starEach (e :: es) X.env)) (backToKw pos (keywordEach [] X.env))) := by rfl) :
    PE X (.Call (.Attribute o m apos) (e :: es) [] pos) (tSMeth C sp E ta t) := by
  refine ⟨fun pins s σ H Q I h => ?_⟩
  refine PySem.W.methodCall_KW (pl := pl) (thn (he.run pins s σ H _ I h) fun u s1 ⟨x, H1, I1, rx, ex, q⟩ => ?_) ht
  subst ex
  obtain rfl : u = Value.ref C := rx
  obtain ⟨rest, hp⟩ := c.rc
  refine PySem.W.method_cls I1.kIn r.ga ?_
  refine PySem.W.cls_bind I1.kIn r.rd c.at_ (wpAny_call (PySem.W.sm_get (s := { s1 with toks := s1.toks + 1 }) I1.kIn hp (PySem.W.handed_on rfl ?_)))
  have I2 := I1.tok (s1.toks + 1)
  exact PySem.W.callWith_K (h₀ := X.base) I2.ok.mod.kin c.kp (thn (ha.run pos pins _ σ H1 _ I2 q) fun us s3 ⟨vs, H2, I3, rv, q2⟩ => ⟨I3.kIn, wpAny_call (run_fnR F hr hx I3 rv q2)⟩) hst hpl
end
/-! ### a + b of two instances of a class with an own __add__ -/
structure AddOwn (K : PySem.W.Frag) (C f : Addr) : Prop where
  at_ : PySem.W.findIn K (.ref C) "__add__" = some (some (.ref f))
  fn : PySem.W.isFn K (.ref f) = true
  sf : PySem.W.selfFirst K C = true
def rAddO (C : Addr) (sp : Sp) (E : XK) : R2 := fun x y H Q => ∃ a dx fs b dy gs, x = .ref a ∧ y = .ref b ∧ H a = some (.ins C dx fs) ∧ H b = some (.ins C dy gs) ∧ sp [.ref a, .ref b] H (fun z H' => ∃ r, z = .ref r ∧ Q (.ref r) H') E
section
variable {X : Cx} {CX : CXT} {C f : Addr} {fd : FuncData} {ps : List Str} {n : Nat} {sp : Sp} {E : XK}
theorem opAddOwn (W : AddOwn X.K C f) (F : FnOk X.prog X.w X.K X.mg X.base CX n f fd ps sp) (hr : Room n X.A) (hb : Binds X.K fd ps []) (hx : Passes CX X E) : OpR X (binaryOp .Add) (rAddO C sp E) := by
  intro pins s σ H x y v u Q I rx ry h
  obtain ⟨a, dx, fs, b, dy, gs, rfl, rfl, ha, hb', q⟩ := h
  cases rx
  cases ry
  obtain ⟨mA, J, _⟩ := ins_get I.hok ha
  obtain ⟨mB, J', _⟩ := ins_get I.hok hb'
  obtain ⟨od, J, _⟩ := J.look
  obtain ⟨od', J', _⟩ := J'.look
  obtain ⟨m, hF⟩ := I.fr
  refine PySem.W.binop_K (op := .Add) hF I.ok.mod.kin J J'.type W.sf W.at_ W.fn ?_
  refine wpAny_mono (own_call F hb hx I hr rfl q) (fun w s' z => ?_) fun _ _ z => z
  obtain ⟨v, H', I', rv, r, rfl, qk⟩ := z
  cases rv
  exact ⟨.ref r, H', I', rfl, qk⟩
/-! ### str of an instance of a class with an own __str__ -/
structure StrOwn (K : PySem.W.Frag) (C f : Addr) : Prop where
  at_ : PySem.W.findIn K (.ref C) "__str__" = some (some (.ref f))
  fn : PySem.W.isFn K (.ref f) = true
def rStrO (C : Addr) (sp : Sp) (E : XK) : List V → Hp → VK → Prop := fun xs H Q => ∃ a dx fs, xs = [.ref a] ∧ H a = some (.ins C dx fs) ∧ sp [.ref a] H (fun z H' => ∃ r, z = .str r ∧ Q (.str r) H') E
theorem own_call1 {A : Around} {pins : List (Addr × Obj)} {σ : L2.St} {H : Hp} {s : Shared} {a : Addr} {Q : VK} (F : FnOk X.prog X.w X.K X.mg X.base CX n f fd ps sp) (hb : Binds X.K fd ps []) (hx : Passes CX X E) (I : Inv X pins σ H s) (hr : Room n A) (hf : A.frames = X.A.frames)
    (h : sp [.ref a] H Q E) : wpAny (model X.prog X.w) A (call (.ref f) [.ref a]) (EP X pins σ Q) X.xe s := by
  have e0 : Env0 X.prog X.w X.K X.mg X.base A X.stack s H := by
    have e := I.env0
    exact ⟨by rw [hf]; exact e.frames, e.mod, e.bs, e.bsz, e.funs, e.frf, e.hok, e.bare⟩
  have hl := F.len _ _ _ _ h
  have r2 : Vals [V.ref a] [Value.ref a] := .cons rfl .nil
  refine wpAny_call (codeAny_mono (F.run A X.stack s H ⟨[.ref a], []⟩ [.ref a] [.ref a] Q E hr e0 (by
    have z := hb s [.ref a] I.kIn (by simpa using hl)
    simpa using z) r2 h) fun r s' hq => ?_)
  cases r with
  | error e => exact hx pins σ H s e s' I hq
  | ok fl =>
    cases fl with
    | ret w => exact I.after hq
    | next => exact False.elim hq
    | brk => exact False.elim hq
    | cont => exact False.elim hq
theorem callStrO (W : StrOwn X.K C f) (F : FnOk X.prog X.w X.K X.mg X.base CX n f fd ps sp) (hr : Room (n + 2) X.A) (hb : Binds X.K fd ps []) (hx : Passes CX X E) : CallR X (.type "str") (rStrO C sp E) := by
  intro pins s σ H xs us Q I r h
  obtain ⟨a, dx, fs, rfl, ha, q⟩ := h
  obtain ⟨u, rfl, ru⟩ := vals1 r
  cases ru
  obtain ⟨mA, J, _⟩ := ins_get I.hok ha
  obtain ⟨od, J, _⟩ := J.look
  have h2 : Room n X.A.in1.in1 := hr.in1.in1
  refine PySem.W.kso_call h2.units0 I.kIn J W.at_ W.fn ?_
  refine wpAny_mono (own_call1 F hb hx I h2 rfl q) (fun w s' z => ?_) fun _ _ z => z
  obtain ⟨v, H', I', rv, r, rfl, qk⟩ := z
  obtain ⟨t, rfl⟩ := rv
  exact ⟨.str r, H', I', ⟨t, rfl⟩, qk⟩
end
end Und
namespace Und
open PySem PySem.Spec PyProof.Rows L2
section
variable {X : Cx} {K : PySem.W.Frag}
theorem crSum (hc : X.calm = true) (h : X.K = K := by rfl) : CallR X (.builtin "sum") (rSum K) := h ▸ cr_sum hc
def tStarK (K : PySem.W.Frag) (te : TE) (t : TA) : TA := fun σ H Q => te σ H fun x H1 => ∃ p xs, x = V.ref p ∧ (SqT K H1 p xs ∨ SqL K H1 p xs) ∧ t σ H1 fun ys H2 => Q (xs ++ ys) H2
theorem paStar {e : Expr} {es : List Expr} {te : TE} {t : TA} {p : Pos} (he : PE X e te) (hr : PA X es t) (h : X.K = K := by rfl) (hs : starEach (.Starred e p :: es) X.env = (true, eval e X.env) :: starEach es X.env := by rfl) : PA X (.Starred e p :: es) (tStarK K te t) := h ▸ StX.pa_star he hr hs
def rStarK (K : PySem.W.Frag) (x : V) (H : Hp) (Q : List V → Prop) : Prop := ∃ p xs, x = V.ref p ∧ (SqT K H p xs ∨ SqL K H p xs) ∧ Q xs
theorem c_star {σ : L2.St} {H : Hp} {te : TE} {t : TA} {Q : List V → Hp → Prop} (h : te σ H fun x H1 => rStarK K x H1 fun xs => t σ H1 fun ys H2 => Q (xs ++ ys) H2) : tStarK K te t σ H Q := h
theorem c_starT {a : Addr} {xs : List V} {H : Hp} {Q : List V → Prop} (e : SqT K H a xs) (h : Q xs) : rStarK K (.ref a) H Q := ⟨a, xs, rfl, .inl e, h⟩
theorem c_starL {a : Addr} {xs : List V} {H : Hp} {Q : List V → Prop} (e : SqL K H a xs) (h : Q xs) : rStarK K (.ref a) H Q := ⟨a, xs, rfl, .inr e, h⟩
end
end Und
namespace Und
open PySem PySem.Spec PyProof.Rows L2
/-! ### calling an instance -/
def rCallK (C : Addr) (sp : Sp) (E : XK) (t : TA) (σ : L2.St) (y : V) (H : Hp) (Q : VK) : Prop := ∃ a, y = V.ref a ∧ t σ H fun vs H2 => (∃ dx fs, H2 a = some (.ins C dx fs)) ∧ sp (V.ref a :: vs) H2 Q E
def tCallK (C : Addr) (sp : Sp) (E : XK) (tf : TE) (t : TA) : TE := fun σ H Q => tf σ H fun y H1 => rCallK C sp E t σ y H1 Q
theorem c_callK {C : Addr} {sp : Sp} {E : XK} {tf : TE} {t : TA} {σ : L2.St} {H : Hp} {Q : VK} (h : tf σ H fun y H1 => rCallK C sp E t σ y H1 Q) : tCallK C sp E tf t σ H Q := h
theorem c_ck {C a : Addr} {sp : Sp} {E : XK} {t : TA} {σ : L2.St} {H : Hp} {Q : VK} (h : t σ H fun vs H2 => (∃ dx fs, H2 a = some (.ins C dx fs)) ∧ sp (V.ref a :: vs) H2 Q E) : rCallK C sp E t σ (.ref a) H Q := ⟨a, rfl, h⟩
theorem peCallO {X : Cx} {CX : CXT} {k : Nat} {C g : Addr} {sp : Sp} {E : XK} {e fe : Expr} {es : List Expr} {tf : TE} {t : TA} {pos : Pos} (hf : PE X fe tf) (c : StX.CallO X.K C g) (F : FnR X.prog X.w X.K X.mg X.base CX k g sp) (hr : Room k X.A) (hx : Passes CX X E) (ha : PA X (e :: es) t)
    (ht : eval (.Call fe (e :: es) [] pos) X.env = (do callWith pos (← eval fe X.env) [] (backTo pos (starEach (e :: es) X.env)) (backToKw pos (keywordEach [] X.env))) := by rfl)
    (he : starEach (e :: es) X.env = (false, eval e X.env) :: starEach es X.env := by rfl) (hpl : (backTo pos (starEach es X.env)).any (·.1) = false := by rfl) : PE X (.Call fe (e :: es) [] pos) (tCallK C sp E tf t) := by
  refine ⟨fun pins s σ H Q I h => ?_⟩
  refine Call_ (thn (hf.run pins s σ H _ I h) fun u s1 ⟨y, H1, I1, ry, a, ey, q⟩ => ?_) ht
  subst ey
  obtain rfl : u = Value.ref a := ry
  refine StX.callO_with (thn (ha.run pos pins s1 σ H1 _ I1 q) fun us s2 ⟨vs, H2, I2, r, hi, q2⟩ => ?_) he hpl
  have hi2 : StX.InsC X H2 a C := .inr hi
  obtain ⟨ox, od, J, hd⟩ := StX.insC_at I2 hi2
  exact ⟨⟨C, ox, od, J, hd⟩, StX.run_callO c F hr hx I2 hi2 r q2⟩
end Und
namespace Und
open PySem PySem.Spec PyProof.Rows L2
/-! ### texts -/
section
variable {X : Cx} {K : PySem.W.Frag} {σ : L2.St} {H : Hp} {Q : VK} {ta tb : TE}
theorem peGlobS {x z : Str} {pos : Pos} (hg : Gl X x) (hm : ∃ t, X.mg x = some (.str z t)) (hd : (x == ("__debug__" : Str)) = false := by decide) : PE X (.Name x pos) (tC (.str z)) := by
  obtain ⟨t, hm⟩ := hm
  exact pe_glob hg hm ⟨t, rfl⟩ hd
def tOrK (K : PySem.W.Frag) (ta tb : TE) : TE := fun σ H Q => ta σ H fun x H1 => ∃ k, TruV K x H1 k ∧ if k = true then Q x H1 else tb σ H1 Q
theorem peOrT {a b : Expr} {rest : List Expr} {pos : Pos} (ha : PE X a ta) (hb : PE X (.BoolOp .Or (b :: rest) pos) tb) (h : X.K = K := by rfl) : PE X (.BoolOp .Or (a :: b :: rest) pos) (tOrK K ta tb) := h ▸ pe_orT ha hb
def rTru (K : PySem.W.Frag) (tb : TE) (σ : L2.St) (x : V) (H : Hp) (Q : VK) : Prop := ∃ k, TruV K x H k ∧ if k = true then Q x H else tb σ H Q
theorem c_orT (h : ta σ H fun x H1 => rTru K tb σ x H1 Q) : tOrK K ta tb σ H Q := h
theorem c_truT {a : Addr} {x : V} {xs : List V} (e : SqT K H a (x :: xs)) (h : Q (.ref a) H) : rTru K tb σ (.ref a) H Q := ⟨true, .inr (.inl ⟨_, e, rfl⟩), by rw [if_pos rfl]; exact h⟩
theorem c_truN (h : tb σ H Q) : rTru K tb σ .non H Q := ⟨false, rfl, by rw [if_neg Bool.false_ne_true]; exact h⟩
def rMS (g : Str → Str → Bool) (x : V) (xs : List V) (H : Hp) (Q : VK) : Prop := ∃ a b, x = .str a ∧ xs = [.str b] ∧ Q (.bl (g a b)) H
theorem mrStartswith : MtR X "str.startswith" (rMS Txt.startswith) := mt_startswith
theorem mrEndswith : MtR X "str.endswith" (rMS Txt.endswith) := mt_endswith
theorem c_rMS {g : Str → Str → Bool} {y z : Str} {b : Bool} (e : g y z = b) (h : Q (.bl b) H) : rMS g (.str y) [.str z] H Q := ⟨y, z, rfl, rfl, by rw [e]; exact h⟩
def rSplit (x : V) (xs : List V) (H : Hp) (Q : VK) : Prop := ∃ a b, x = .str a ∧ xs = [.str b] ∧ (b.length == 0) = false ∧ a.length + 2 ≤ sizeLine ∧ rNewStrs (Txt.split a b) H Q
def rPart (x : V) (xs : List V) (H : Hp) (Q : VK) : Prop := ∃ a b, x = .str a ∧ xs = [.str b] ∧ (b.length == 0) = false ∧ a.length ≤ sizeLine ∧ ∀ p, H p = none → Q (.ref p) (upd H p (.tup [.str (Txt.partition a b).1, .str (Txt.partition a b).2.1, .str (Txt.partition a b).2.2]))
theorem peSplit {o e : Expr} {apos pos : Pos} (ho : PE X o ta) (he : PE X e tb) (hs : starEach [e] X.env = [(false, eval e X.env)] := by rfl) (hbase : attributeBase o "split" X.env (eval o X.env) = eval o X.env := by rfl) (hline : (apos.endLine == pos.line) = true := by rfl) :
    PE X (.Call (.Attribute o "split" apos) [e] [] pos) (tM1 rSplit ta tb) := pe_split ho he hs hbase hline
theorem pePartition {o e : Expr} {apos pos : Pos} (ho : PE X o ta) (he : PE X e tb) (hs : starEach [e] X.env = [(false, eval e X.env)] := by rfl) (hbase : attributeBase o "partition" X.env (eval o X.env) = eval o X.env := by rfl) (hline : (apos.endLine == pos.line) = true := by rfl) :
    PE X (.Call (.Attribute o "partition" apos) [e] [] pos) (tM1 rPart ta tb) := pe_partition ho he hs hbase hline
theorem c_split {y z : Str} {ys : List Str} (e : Txt.split y z = ys) (h0 : (z.length == 0) = false) (hl : y.length ≤ 100000) (h : ∀ p H2, H p = none → Same H H2 → H2 p = some (.lst (ys.map V.str)) → Q (.ref p) H2) : rSplit (.str y) [.str z] H Q :=
  ⟨y, z, rfl, rfl, h0, Nat.le_trans (show y.length + 2 ≤ 200000 by omega) (by decide), fun p np => by rw [e]; exact h p _ np (same_new np) upd_same⟩
theorem c_part1 {y z a b c : Str} (e : Txt.partition y z = (a, b, c)) (h0 : (z.length == 0) = false) (hl : y.length ≤ 100000) (h : ∀ p H2, H p = none → Same H H2 → H2 p = some (.tup [.str a, .str b, .str c]) → Q (.ref p) H2) : rPart (.str y) [.str z] H Q :=
  ⟨y, z, rfl, rfl, h0, sz hl, fun p np => by rw [e]; exact h p _ np (same_new np) upd_same⟩
def rIntS (xs : List V) (H : Hp) (Q : VK) : Prop := ∃ a n, xs = [.str a] ∧ PySem.intText? a = some n ∧ a.length ≤ 640 ∧ Q (.int n) H
theorem callIntS : CallR X (.type "int") rIntS := call_int_str
theorem c_intS {a : Str} {n : Int} (e : PySem.intText? a = some n) (hl : a.length ≤ 640) (h : Q (.int n) H) : rIntS [.str a] H Q := ⟨a, n, rfl, e, hl, h⟩
end
end Und
namespace Und
open PySem PySem.Spec PyProof.Rows L2
theorem c_par3 {i j l : Nat} {t : TA} {D : Ends} {σ : L2.St} {H : Hp} (h : t σ H fun vs H1 => ∃ u v w, vs = [u, v, w] ∧ D.nx (((σ.set i (some u)).set j (some v)).set l (some w)) H1) : tPar3 i j l t D σ H := h
theorem c_three {x y z : V} {R : V → V → V → Prop} (h : R x y z) : ∃ u v w, [x, y, z] = [u, v, w] ∧ R u v w := ⟨x, y, z, rfl, h⟩
end Und
/-! del xs[a:] of a list -/
namespace Und
open PySem PySem.Spec PyProof.Rows L2
theorem tail_bounds {a n : Nat} (ha : a ≤ n) : sliceBounds (some (a : Int)) none none n = ((a : Int), (n : Int), 1) := by
  have h0 : ¬ ((a : Int) < 0) := by omega
  simp only [sliceBounds, Option.getD_none, h0, if_false, show (1 : Int) > 0 by decide, if_true]
  congr 1
  omega
theorem keep_zip (sel : Nat → Bool) (a : Nat) : ∀ (xs : List Value) (k : Nat), (∀ j, k ≤ j → j < k + xs.length → sel j = decide (a ≤ j)) → (xs.zipIdx k).filterMap (fun x => if sel x.2 = true then none else some x.1) = xs.take (a - k)
  | [], k, _ => by simp
  | x :: xs, k, h => by
    have h0 := h k (Nat.le_refl _) (by simp)
    have ih := keep_zip sel a xs (k + 1) fun j h1 h2 => h j (by omega) (by simp; omega)
    rw [List.zipIdx_cons, List.filterMap_cons]
    dsimp only
    rw [h0]
    by_cases hk : a ≤ k
    · rw [decide_eq_true hk, if_pos rfl, show a - k = 0 from by omega, List.take_zero]
      dsimp only
      rw [ih, show a - (k + 1) = 0 from by omega, List.take_zero]
    · rw [decide_eq_false hk, if_neg Bool.false_ne_true, show a - k = (a - (k + 1)) + 1 from by omega, List.take_succ_cons]
      dsimp only
      rw [ih]
theorem keep_of (sel : Nat → Bool) {a n : Nat} (hs : ∀ j : Nat, sel j = (decide ((a : Int) ≤ (j : Int)) && decide ((j : Int) < (n : Int)) && (((j : Int) - (a : Int)) % 1 == 0))) (xs : Array Value) (hn : xs.size = n) :
    (xs.toList.zipIdx.filterMap fun x => if sel x.2 = true then none else some x.1).toArray = (xs.toList.take a).toArray := by
  have e := keep_zip sel a xs.toList 0 fun j _ h2 => by
    rw [hs j, Int.emod_one, show ((0 : Int) == 0) = true from rfl, Bool.and_true]
    have hl : j < n := by
      rw [← hn]
      simpa using h2
    rw [decide_eq_true (show (j : Int) < (n : Int) by omega), Bool.and_true]
    by_cases ha : a ≤ j
    · rw [decide_eq_true ha, decide_eq_true (by omega)]
    · rw [decide_eq_false ha, decide_eq_false (by omega)]
  rw [Nat.sub_zero] at e
  exact congrArg List.toArray e
section
variable {prog : Program} {w : World} {A : Around} {E : Value → Shared → Prop} {s : Shared}
theorem upd_any {l : Addr} {items : Array Value} {n : Nat} {f : Array Value → Array Value} {Q : Unit → Shared → Prop} (e : s.heap.get? l = some { cls := .type "list", data := .seq items n }) (hz : items.size ≤ sizeLine) (hf : (f items).size ≤ sizeLine + 1)
    (h : Q () { s with heap := s.heap.update l (Obj.mapSeq f) }) : wpAny (model prog w) A (Builtin.List.listUpdate (.ref l) f) Q E s := wpAny_updateSeq (hz := hz) (_hz' := hf) e rfl h
theorem del_tail {l sl : Addr} {items : Array Value} {n a : Nat} {vl : Value} {Q : Unit → Shared → Prop} (e : s.heap.get? l = some { cls := .type "list", data := .seq items n }) (hs : s.heap.IsSliceOf sl vl .none .none) (pl : IsPart vl (some (a : Int))) (ha : a ≤ items.size) (hz : items.size ≤ sizeLine)
    (h : ∀ f : Array Value → Array Value, (∀ xs : Array Value, xs.size = items.size → f xs = (xs.toList.take a).toArray) → Q () { s with heap := s.heap.update l (Obj.mapSeq f) }) : wpAny (model prog w) A (delItem (.ref l) (.ref sl)) Q E s := by
  have tl : s.heap.IsList l items := PySem.IsL.isList e
  obtain ⟨ob, g, gc, gd⟩ := id hs
  have ts : s.TypeIs (.ref sl) "slice" := ⟨ob, g, gc⟩
  have nz : ¬ ((rawPart none == rawInt 0) = true) := Bool.false_ne_true
  refine wpAny_delItem_slot tl.typeIs (by decide) PySem.F.slot_list_delitem (wpAny_call_entry PySem.F.slot_list_delitem tl.typeIs PySem.F.entry_list_delitem ?_ (PySem.F.args_list_delitem_2 _ _))
  show wpAny _ _ (Builtin.List.listSubscript? (.ref sl) >>= _) _ _ s
  refine wpAny_bind (m := Builtin.List.listSubscript? (.ref sl)) ?_; unfold Builtin.List.listSubscript?
  refine wpAny_bind (wpAny_specialOf ts slice_no_index ?_); simp only [Option.isNone_none, if_true]; refine wpAny_pure ?_
  show wpAny _ _ (typeOf (.ref sl) >>= _) _ _ s
  refine wpAny_bind (wpAny_typeOf ts ?_); refine PySem.W.KFB.if_not (by decide) ?_; rw [listSliceParts_eq]
  refine wpAny_bind (wpAny_bind (wpAny_field g gd (x := .none) rfl (wpAny_bind (wpAny_listPart .none ?_)))); rw [if_neg nz]
  refine wpAny_bind (wpAny_field g gd (x := vl) rfl (wpAny_bind (wpAny_listPart pl ?_)))
  refine wpAny_bind (wpAny_field g gd (x := .none) rfl (wpAny_bind (wpAny_listPart .none (wpAny_pure ?_))))
  refine wpAny_bind (m := Builtin.List.listItems (.ref l)) ?_; unfold Builtin.List.listItems; refine wpAny_bind (wpAny_seqItems e rfl (wpAny_pure ?_))
  refine wpAny_bind (wpAny_of_eq ((sliceIndices_raw (some (a : Int)) none none items.size (by simp)).trans (congrArg (pure : Int × Int × Int → Sem (Int × Int × Int)) (tail_bounds ha))) ?_)
  refine wpAny_bind (wpAny_rule (wpAny_bind (upd_any e hz ?_ ?_)))
  · have k := keep_of _ (a := a) (n := items.size) (fun j => rfl) items rfl
    refine Nat.le_trans (Nat.le_of_eq (congrArg Array.size k)) ?_
    rw [List.size_toArray, List.length_take, Array.length_toList]
    omega
  · exact wpAny_bind (wpAny_letGo (wpAny_pure ⟨_, rfl, h _ fun xs hx => keep_of _ (fun j => rfl) xs hx⟩))
end
end Und
namespace Und
open PySem PySem.Spec PyProof.Rows L2
section
variable {X : Cx}
theorem del_tail_I {pins : List (Addr × Obj)} {s : Shared} {σ : L2.St} {H : Hp} {l sl : Addr} {xs : List V} {a : Int} {vl : Value} {Q : Unit → Shared → Prop} (I : Inv X pins σ H s) (hH : H l = some (.lst xs)) (hs : s.heap.IsSliceOf sl vl .none .none) (ra : RelV (.int a) vl) (h0 : 0 ≤ a) (ha : a ≤ xs.length)
    (h : ∀ s', Inv X pins σ (upd H l (.lst (xs.take a.toNat))) s' → Q () s') : wpAny (model X.prog X.w) X.A (delItem (.ref l) (.ref sl)) Q X.xe s := by
  obtain ⟨ta, rfl⟩ := ra
  obtain ⟨z, its, n, r, hl, e⟩ := I.lstM hH
  obtain ⟨k, rfl⟩ := Int.eq_ofNat_of_zero_le h0
  rw [Int.toNat_natCast] at h
  refine del_tail (a := k) e hs (.int _ _) (by rw [List.size_toArray]; omega) (by rw [List.size_toArray]; omega) fun f hf => h _ ?_
  refine I.lset (its' := its.take k) (t' := s.toks) hH e (hf _ rfl) (r.take k) ?_
  rw [List.length_take]
  omega
/-- del o[lo:] of a list -/
def rDelT (x y : V) (H : Hp) (N : Hp → Prop) : Prop := ∃ l xs a, x = .ref l ∧ y = .int a ∧ H l = some (.lst xs) ∧ 0 ≤ a ∧ a ≤ xs.length ∧ N (upd H l (.lst (xs.take a.toNat)))
def tDelT (to tl : TE) : TS := fun D σ H => to σ H fun x H1 => tl σ H1 fun y H2 => rDelT x y H2 fun H3 => D.nx σ H3
theorem c_delT {to tl : TE} {D : Ends} {σ : L2.St} {H : Hp} (h : to σ H fun x H1 => tl σ H1 fun y H2 => rDelT x y H2 fun H3 => D.nx σ H3) : tDelT to tl D σ H := h
theorem c_rDelT {l : Addr} {xs : List V} {a : Nat} {H : Hp} {N : Hp → Prop} (e : H l = some (.lst xs)) (ha : a ≤ xs.length) (h : N (upd H l (.lst (xs.take a)))) : rDelT (.ref l) (.int (a : Int)) H N := ⟨l, xs, a, rfl, rfl, e, Int.natCast_nonneg a, by omega, by rw [Int.toNat_natCast]; exact h⟩
theorem ps_delT {o lo : Expr} {to tl : TE} {p tpos pos : Pos} (ho : PE X o to) (hl : PE X lo tl) : PS X (.Delete [.Subscript o (.Slice (some lo) none none p) tpos] pos) (tDelT to tl) := by
  refine ⟨fun pins s σ H D I h => ?_⟩
  refine wpAny_Delete (wpAny_deleteEach_cons (wpAny_delete_Subscript (thn (ho.run pins s σ H _ I h) fun u s1 ⟨x, H1, I1, rx, q1⟩ => wpAny_Slice (thn (hl.run pins s1 σ H1 _ I1 q1) fun v s2 ⟨y, H2, I2, ry, q2⟩ => ?_))))
  obtain ⟨l, xs, a, rfl, rfl, hH, h0, ha, q3⟩ := q2
  cases (show u = Value.ref l from rx)
  rw [evalPart_none]
  refine wpAny_pure (wpAny_pure ?_)
  have I3 := I2.kept (t' := s2.toks) (h' := s2.heap.push { cls := .type "slice", data := .fields #[v, .none, .none] }) fun b ob q => Heap.get?_push_of_some _ q
  exact del_tail_I I3 hH (Heap.IsSliceOf.new ..) ry h0 ha fun s3 I4 => wpAny_deleteEach_nil ⟨σ, _, I4, q3⟩
end
end Und
/-! data that is compared -/
namespace Und
open PySem PySem.Spec PyProof.Rows L2
/-- a tuple of texts, as data -/
def dNames (ns : List Str) : PyData := .tuple (ns.map .str)
def dInts (ns : List Int) : PyData := .list (ns.map .int)
section
variable {K : PySem.W.Frag} {H H' : Hp} {Q : VK} {x y v : V} {d e : PyData}
theorem dpAll_strs : ∀ ns : List Str, DpAll K H (ns.map V.str) (ns.map PyData.str)
  | [] => .nil
  | z :: r => .cons (.str z) (dpAll_strs r)
theorem dpAll_ints : ∀ ns : List Int, DpAll K H (ns.map V.int) (ns.map PyData.int)
  | [] => .nil
  | z :: r => .cons (.int z) (dpAll_ints r)
theorem dp_names {a : Addr} {ns : List Str} (h : SqT K H a (ns.map V.str)) : Dp K H (.ref a) (dNames ns) := .tup h (dpAll_strs ns)
theorem dp_ints {a : Addr} {ns : List Int} (h : SqL K H a (ns.map V.int)) : Dp K H (.ref a) (dInts ns) := .lst h (dpAll_ints ns)
theorem low_ok {z : Str} (h : Low z) : PyData.strOk z = true := by
  unfold PyData.strOk
  rw [Array.all_eq_true_iff_forall_mem]
  intro c hc
  have := h c (by simpa using hc)
  exact decide_eq_true (by omega)
theorem canAll_strs : ∀ ns : List Str, (∀ z ∈ ns, PyData.strOk z = true) → PyData.canLayAll0 (ns.map PyData.str) = true
  | [], _ => by simp [PyData.canLayAll0]
  | z :: r, h => by
    rw [List.map_cons]
    unfold PyData.canLayAll0
    rw [canAll_strs r fun y hy => h y (List.mem_cons_of_mem _ hy)]
    unfold PyData.canLay0
    rw [h z List.mem_cons_self]
    rfl
theorem depthAll_strs : ∀ ns : List Str, PyData.depthAll (ns.map PyData.str) = 0
  | [] => by simp [PyData.depthAll]
  | z :: r => by
    rw [List.map_cons]
    unfold PyData.depthAll
    rw [depthAll_strs r]
    simp [PyData.depth]
theorem canAll_ints : ∀ ns : List Int, PyData.canLayAll0 (ns.map PyData.int) = true
  | [] => by simp [PyData.canLayAll0]
  | z :: r => by
    rw [List.map_cons]
    unfold PyData.canLayAll0
    rw [canAll_ints r]
    simp [PyData.canLay0]
theorem depthAll_ints : ∀ ns : List Int, PyData.depthAll (ns.map PyData.int) = 0
  | [] => by simp [PyData.depthAll]
  | z :: r => by
    rw [List.map_cons]
    unfold PyData.depthAll
    rw [depthAll_ints r]
    simp [PyData.depth]
/-- data within some depth that can be laid -/
structure DOk (d : PyData) (n : Nat) : Prop where
  lay : d.canLay0 = true
  dep : d.depth ≤ n
theorem DOk.shaped {n : Nat} (h : DOk d n) (hn : n ≤ 64) : SeqAt.shaped d = true := by
  unfold SeqAt.shaped
  rw [h.lay, Bool.true_and]
  exact decide_eq_true (Nat.le_trans h.dep hn)
theorem DOk.mono {n m : Nat} (h : DOk d n) (l : n ≤ m) : DOk d m := ⟨h.lay, Nat.le_trans h.dep l⟩
theorem dok_names {ns : List Str} (h : ∀ z ∈ ns, Low z) : DOk (dNames ns) 1 := by
  refine ⟨?_, ?_⟩
  · unfold dNames PyData.canLay0
    exact canAll_strs ns fun z hz => low_ok (h z hz)
  · unfold dNames PyData.depth
    rw [depthAll_strs]
    exact Nat.le_refl _
theorem dok_ints (ns : List Int) : DOk (dInts ns) 1 := by
  refine ⟨?_, ?_⟩
  · unfold dInts PyData.canLay0
    exact canAll_ints ns
  · unfold dInts PyData.depth
    rw [depthAll_ints]
    exact Nat.le_refl _
theorem dok_list {ds : List PyData} {n : Nat} (h : ∀ d ∈ ds, DOk d n) : DOk (.list ds) (n + 1) ∧ DOk (.tuple ds) (n + 1) := by
  have e1 : PyData.canLayAll0 ds = true := by
    induction ds with
    | nil => simp [PyData.canLayAll0]
    | cons d r ih =>
      unfold PyData.canLayAll0
      rw [(h d List.mem_cons_self).lay, ih fun y hy => h y (List.mem_cons_of_mem _ hy)]
      rfl
  have e2 : PyData.depthAll ds ≤ n := by
    induction ds with
    | nil => simp [PyData.depthAll]
    | cons d r ih =>
      unfold PyData.depthAll
      have a := (h d List.mem_cons_self).dep
      have b := ih (fun y hy => h y (List.mem_cons_of_mem _ hy)) (by
        unfold PyData.canLayAll0 at e1
        exact (Bool.and_eq_true_iff.mp e1).2)
      exact Nat.max_le.mpr ⟨a, b⟩
  refine ⟨⟨?_, ?_⟩, ⟨?_, ?_⟩⟩
  · unfold PyData.canLay0
    exact e1
  · unfold PyData.depth
    omega
  · unfold PyData.canLay0
    exact e1
  · unfold PyData.depth
    omega
theorem eqvAll_strs : ∀ ns ms : List Str, PyData.eqvAll (ns.map PyData.str) (ms.map PyData.str) = decide (ns = ms)
  | [], [] => by simp [PyData.eqvAll]
  | [], _ :: _ => by simp [PyData.eqvAll]
  | _ :: _, [] => by simp [PyData.eqvAll]
  | a :: r, b :: t => by
    rw [List.map_cons, List.map_cons]
    unfold PyData.eqvAll
    rw [eqvAll_strs r t]
    unfold PyData.eqv
    by_cases h : a = b
    · subst h
      simp
    · simp [h]
theorem eqv_names (ns ms : List Str) : PyData.eqv (dNames ns) (dNames ms) = decide (ns = ms) := by
  unfold dNames PyData.eqv
  exact eqvAll_strs ns ms
theorem eqvAll_ints : ∀ ns ms : List Int, PyData.eqvAll (ns.map PyData.int) (ms.map PyData.int) = decide (ns = ms)
  | [], [] => by simp [PyData.eqvAll]
  | [], _ :: _ => by simp [PyData.eqvAll]
  | _ :: _, [] => by simp [PyData.eqvAll]
  | a :: r, b :: t => by
    rw [List.map_cons, List.map_cons]
    unfold PyData.eqvAll
    rw [eqvAll_ints r t]
    unfold PyData.eqv
    by_cases h : a = b
    · subst h
      simp
    · simp [h]
theorem eqv_ints (ns ms : List Int) : PyData.eqv (dInts ns) (dInts ms) = decide (ns = ms) := by
  unfold dInts PyData.eqv
  exact eqvAll_ints ns ms
mutual
theorem eqv_same : ∀ (d : PyData), d.canLay0 = true → PyData.eqv d d = true
  | .none, _ => by simp [PyData.eqv]
  | .bool _, _ => by simp [PyData.eqv]
  | .int _, _ => by simp [PyData.eqv]
  | .str _, _ => by simp [PyData.eqv]
  | .list xs, h => by
    unfold PyData.eqv
    exact eqvAll_same xs (by unfold PyData.canLay0 at h; exact h)
  | .tuple xs, h => by
    unfold PyData.eqv
    exact eqvAll_same xs (by unfold PyData.canLay0 at h; exact h)
  | .dict _, h => by
    unfold PyData.canLay0 at h
    cases h
theorem eqvAll_same : ∀ (ds : List PyData), PyData.canLayAll0 ds = true → PyData.eqvAll ds ds = true
  | [], _ => by simp [PyData.eqvAll]
  | d :: r, h => by
    unfold PyData.canLayAll0 at h
    unfold PyData.eqvAll
    rw [eqv_same d (Bool.and_eq_true_iff.mp h).1, eqvAll_same r (Bool.and_eq_true_iff.mp h).2]
    rfl
end
theorem c_eqD {n m : Nat} (hd : Dp K H x d) (he : Dp K H y e) (od : DOk d n) (oe : DOk e m) (ln : n ≤ 64) (lm : m ≤ 64) (h : Q (.bl (PyData.eqv d e)) H) : rEqD K x y H Q := ⟨d, e, hd, he, od.shaped ln, oe.shaped lm, h⟩
theorem c_neD {n m : Nat} (hd : Dp K H x d) (he : Dp K H y e) (od : DOk d n) (oe : DOk e m) (ln : n ≤ 64) (lm : m ≤ 64) (h : Q (.bl (!PyData.eqv d e)) H) : rNeD K x y H Q := ⟨d, e, hd, he, od.shaped ln, oe.shaped lm, h⟩
/-- two equal things of data are seen to be equal -/
theorem c_neD1 {n : Nat} (hd : Dp K H x d) (he : Dp K H y d) (od : DOk d n) (ln : n ≤ 64) (h : Q (.bl false) H) : rNeD K x y H Q := ⟨d, d, hd, he, od.shaped ln, od.shaped ln, by rw [eqv_same d od.lay]; exact h⟩
theorem c_eqD1 {n : Nat} (hd : Dp K H x d) (he : Dp K H y d) (od : DOk d n) (ln : n ≤ 64) (h : Q (.bl true) H) : rEqD K x y H Q := ⟨d, d, hd, he, od.shaped ln, od.shaped ln, by rw [eqv_same d od.lay]; exact h⟩
end
end Und
/-! readings of dicts, of a class called by a local name, of name op= e, a = b = e, sorted, great products: with heads that are constants -/
namespace Und
open PySem PySem.Spec PyProof.Rows L2
def rDG (x y : V) (H : Hp) (Q : VK) : Prop := ∃ a v, x = .ref a ∧ DGet H a y (some v) ∧ Q v H
def tDG (td ty : TE) : TE := fun σ H Q => td σ H fun x H1 => ty σ H1 fun y H2 => rDG x y H2 Q
def rDN (y x : V) (H : Hp) (Q : VK) : Prop := ∃ a o, x = .ref a ∧ DGet H a y o ∧ Q (.bl (!o.isSome)) H
def tDN (ty td : TE) : TE := fun σ H Q => ty σ H fun y H1 => td σ H1 fun x H2 => rDN y x H2 Q
def rDP (x y v : V) (H : Hp) (N : Hp → Prop) : Prop := ∃ a H4, x = .ref a ∧ DPut H a y v H4 ∧ N H4
def tDP (td ty tv : TE) : TS := fun D σ H => tv σ H fun v H1 => td σ H1 fun x H2 => ty σ H2 fun y H3 => rDP x y v H3 fun H4 => D.nx σ H4
def tNewD : TE := tDNewK
section
variable {X : Cx} {td ty tv te : TE} {o i e : Expr} {pos pos' : Pos}
theorem peDG (hu : X.A.units + 1 < cLine) (ho : PE X o td) (hi : PE X i ty) (hs : NoSl i) : PE X (.Subscript o i pos) (tDG td ty) := pe_dget hu ho hi hs
theorem pcDN (hu : X.A.units + 1 < cLine) (hi : PE X i ty) (ho : PE X o td) : PC X .NotIn i o (tDN ty td) := pc_dnotin hu hi ho
theorem psDP {v : Expr} (hu : X.A.units + 1 < cLine) (ho : PE X o td) (hi : PE X i ty) (hv : PE X v tv) (hs : swapsWith v (some (.Subscript o i pos')) pos.line X.env = pure false := by rfl) : PS X (.Assign [.Subscript o i pos'] v pos) (tDP td ty tv) := ps_dput hu ho hi hv hs
end
section
variable {K : PySem.W.Frag} {σ : L2.St} {H : Hp} {Q : VK} {D : Ends} {td ty tv te : TE} {a : Addr} {x y v : V}
theorem c_dg (h : td σ H fun x H1 => ty σ H1 fun y H2 => rDG x y H2 Q) : tDG td ty σ H Q := h
theorem c_rDG (g : DGet H a y (some v)) (h : Q v H) : rDG (.ref a) y H Q := ⟨a, v, rfl, g, h⟩
theorem c_rDGk {kvs : List (Key × V)} {k : Key} (e : H a = some (.dK kvs)) (hv : valV kvs k = some v) (h : Q v H) : rDG (.ref a) (kV k) H Q := ⟨a, v, rfl, hv ▸ DGet.k e, h⟩
theorem c_dn (h : ty σ H fun y H1 => td σ H1 fun x H2 => rDN y x H2 Q) : tDN ty td σ H Q := h
theorem c_rDN {o : Option V} {b : Bool} (g : DGet H a y o) (e : (!o.isSome) = b) (h : Q (.bl b) H) : rDN y (.ref a) H Q := ⟨a, o, rfl, g, by rw [e]; exact h⟩
theorem c_dp (h : tv σ H fun v H1 => td σ H1 fun x H2 => ty σ H2 fun y H3 => rDP x y v H3 fun H4 => D.nx σ H4) : tDP td ty tv D σ H := h
theorem c_rDP {N : Hp → Prop} {kvs : List (Key × V)} {k : Key} (e : H a = some (.dK kvs)) (hl : kvs.length < 100000) (h : N (upd H a (.dK (putK kvs k v)))) : rDP (.ref a) (kV k) v H N := ⟨a, _, rfl, .k e (szl hl), h⟩
theorem c_dnew (h : ∀ p H2, H p = none → Same H H2 → H2 p = some (.dK []) → Q (.ref p) H2) : tDNewK σ H Q := fun p np => h p _ np (same_new np) upd_same
/-! ### name op= e -/
def rIpA (x y : V) (H : Hp) (Q : VK) : Prop := ipI (fun i j => i + j) x y H Q
def tAugA (i : Nat) (te : TE) : TS := fun D σ H => ∃ x, σ[i]? = some (some x) ∧ te σ H fun y H1 => rIpA x y H1 fun z H2 => D.nx (σ.set i (some z)) H2
theorem psAugA {X : Cx} {i : Nat} {x : Str} {e : Expr} {te : TE} {pos pos' : Pos} (hN : X.N.Nodup) (hi : X.N[i]? = some x) (hx : Loc X.env.scope x) (he : PE X e te) (hf : X.fn x = true ∨ X.env.scope.names.lookup x = some .local := by first | exact .inl rfl | exact .inr rfl | assumption) :
    PS X (.AugAssign (.Name x pos') .Add e pos) (tAugA i te) := ps_aug hN hi hx he ip_add hf
theorem c_augA {i : Nat} {x : V} (e : σ[i]? = some (some x)) (h : te σ H fun y H1 => rIpA x y H1 fun z H2 => D.nx (σ.set i (some z)) H2) : tAugA i te D σ H := ⟨x, e, h⟩
theorem c_rIpA {i j : Int} (h : Q (.int (i + j)) H) : rIpA (.int i) (.int j) H Q := ⟨i, j, rfl, rfl, h⟩
theorem c_asg22 {g1 g2 : TG} (h : te σ H fun x H1 => g1 x σ H1 fun σ1 H2 => g2 x σ1 H2 D.nx) : tAsg2 te g1 g2 D σ H := h
/-! ### sorted -/
def rSrt (K : PySem.W.Frag) : List V → Hp → VK → Prop := fun vs H Q => ∃ (a : Addr) (ns : List Int), vs = [V.ref a] ∧ SqL K H a (ns.map V.int) ∧ ∀ (ns' : List Int) (p : Addr), ns'.Perm ns → ns'.Pairwise (· ≤ ·) → H p = none → Q (.ref p) (upd H p (.lst (ns'.map V.int)))
theorem crSrt {X : Cx} {K : PySem.W.Frag} (h : X.K = K := by rfl) : CallR X (.builtin "sorted") (rSrt K) := h ▸ cr_sortedI
theorem c_srt {ns : List Int} (e : SqL K H a (ns.map V.int)) (h : ∀ (ns' : List Int) p H2, ns'.Perm ns → ns'.Pairwise (· ≤ ·) → H p = none → Same H H2 → H2 p = some (.lst (ns'.map V.int)) → Q (.ref p) H2) : rSrt K [.ref a] H Q :=
  ⟨a, ns, rfl, e, fun ns' p hp hs np => h ns' p _ hp hs np (same_new np) upd_same⟩
end
theorem c_cmeth {C : Addr} {sp : Sp} {E : XK} {ta : TE} {t : TA} {σ : L2.St} {H : Hp} {Q : VK} (h : ta σ H fun x H1 => x = .ref C ∧ t σ H1 fun vs H2 => sp (.ref C :: vs) H2 Q E) : ClX.tCMeth C sp E ta t σ H Q := h
def natI (D : List Nat) : List V := D.map fun j : Nat => V.int (Int.ofNat j)
theorem natI_len (D : List Nat) : (natI D).length = D.length := List.length_map ..
theorem natI_app (D E : List Nat) : natI (D ++ E) = natI D ++ natI E := List.map_append ..
theorem natI_get {D : List Nat} {i : Nat} {x : V} (h : (natI D)[i]? = some x) : ∃ j : Nat, D[i]? = some j ∧ x = .int (j : Int) := by
  unfold natI at h
  rw [List.getElem?_map] at h
  cases e : D[i]? with
  | none => rw [e] at h; cases h
  | some j =>
    rw [e] at h
    exact ⟨j, rfl, (Option.some.inj h).symm⟩
theorem natI_at {D : List Nat} {i j : Nat} (h : D[i]? = some j) : (natI D)[i]? = some (.int (j : Int)) := by
  unfold natI
  rw [List.getElem?_map, h]
  rfl
theorem rgV_nat (n : Nat) : rgV 0 (n : Int) = natI (List.range n) := by
  unfold rgV natI
  rw [show ((n : Int) - 0).toNat = n by omega]
  refine List.map_congr_left fun i _ => ?_
  rw [Int.zero_add]
  rfl
def rLR1 (x : V) (H : Hp) (Q : VK) : Prop := ∃ n, x = .int n ∧ RgOk 0 n ∧ ∀ q, H q = none → Q (.ref q) (upd H q (.lst (rgV 0 n)))
theorem c_lstRg1 {ta : TE} {σ : L2.St} {H : Hp} {Q : VK} (h : ta σ H fun x H1 => rLR1 x H1 Q) : tLstRg (tRg1 ta) σ H Q := h
theorem c_rLR1 {n : Nat} {H : Hp} {Q : VK} (hn : n ≤ 100000) (h : ∀ p H2, H p = none → Same H H2 → H2 p = some (.lst (natI (List.range n))) → Q (.ref p) H2) : rLR1 (.int (n : Int)) H Q :=
  ⟨n, rfl, .of_le (by omega) (by omega) (by omega) (by omega), fun q nq => by
    rw [rgV_nat]
    exact h q _ nq (same_new nq) upd_same⟩
/-! ### tuples of numbers -/
theorem inV_nat (a : Nat) : ∀ ns : List Nat, inV (.int (a : Int)) (natI ns) = decide (a ∈ ns)
  | [] => by simp [inV, natI]
  | n :: ns => by
    have ih := inV_nat a ns
    unfold inV at ih ⊢
    rw [show natI (n :: ns) = V.int (n : Int) :: natI ns from rfl, List.any_cons, ih]
    by_cases h : n = a
    · subst h
      simp [eqV]
    · have h2 : ¬ a = n := fun z => h z.symm
      have h3 : ¬ (n : Int) = (a : Int) := fun z => h (by omega)
      simp [eqV, h2, h3]
theorem flat_nat (ns : List Nat) : (natI ns).all flatV = true := by
  rw [List.all_eq_true]
  intro x hx
  obtain ⟨n, _, rfl⟩ := List.mem_map.mp hx
  rfl
theorem c_inNT {K : PySem.W.Frag} {p : Addr} {a : Nat} {ns : List Nat} {b : Bool} {H : Hp} {Q : VK} (e : SqT K H p (natI ns)) (hb : decide (a ∈ ns) = b) (h : Q (.bl b) H) : rIn K false (.int (a : Int)) (.ref p) H Q := by
  refine ⟨p, _, rfl, .inr e, rfl, flat_nat ns, ?_⟩
  rw [if_neg Bool.false_ne_true, inV_nat, hb]
  exact h
def dNats (ns : List Nat) : PyData := .tuple (ns.map fun j : Nat => .int (j : Int))
theorem dp_nats {K : PySem.W.Frag} {H : Hp} {a : Addr} {ns : List Nat} (h : SqT K H a (natI ns)) : Dp K H (.ref a) (dNats ns) := by
  have e : ∀ ns : List Nat, DpAll K H (natI ns) (ns.map fun j : Nat => PyData.int (j : Int)) := fun ns => by
    have := dpAll_ints (K := K) (H := H) (ns.map fun j : Nat => (j : Int))
    rw [List.map_map, List.map_map] at this
    exact this
  exact .tup h (e ns)
theorem dok_nats (ns : List Nat) : DOk (dNats ns) 1 := by
  refine (dok_list (n := 0) fun d hd => ?_).2
  obtain ⟨j, _, rfl⟩ := List.mem_map.mp hd
  exact ⟨by simp [PyData.canLay0], by simp [PyData.depth]⟩
/-! ### a cut: what holds behind a statement, whichever way it went -/
theorem cut_seq {t1 t2 : TS} {D : Ends} {σ : L2.St} {H : Hp} (R : L2.St → Hp → Prop) (h1 : ∀ N : L2.St → Hp → Prop, (∀ σ' H', R σ' H' → N σ' H') → t1 { D with nx := N } σ H) (h2 : ∀ σ' H', R σ' H' → t2 D σ' H') : tSeq t1 t2 D σ H := h1 _ h2
theorem cut_val {te : TE} {σ : L2.St} {H : Hp} {Q : VK} (R : V → Hp → Prop) (h1 : ∀ N : VK, (∀ v H', R v H' → N v H') → te σ H N) (h2 : ∀ v H', R v H' → Q v H') : te σ H Q := h1 _ h2
theorem c_splitB {y z : Str} {ys : List Str} {H : Hp} {Q : VK} (e : Txt.split y z = ys) (h0 : (z.length == 0) = false) (hl : y.length + 2 ≤ sizeLine) (h : ∀ p H2, H p = none → Same H H2 → H2 p = some (.lst (ys.map V.str)) → Q (.ref p) H2) : rSplit (.str y) [.str z] H Q :=
  ⟨y, z, rfl, rfl, h0, hl, fun p np => by rw [e]; exact h p _ np (same_new np) upd_same⟩
theorem list_are {α : Type} {xs : List V} {l : List α} {f : α → V} (hl : xs.length = l.length) (h : ∀ (i : Nat) y, xs[i]? = some y → ∃ z, l[i]? = some z ∧ y = f z) : xs = l.map f := by
  refine List.ext_getElem? fun i => ?_
  rw [List.getElem?_map]
  cases e : xs[i]? with
  | none =>
    have h1 := List.getElem?_eq_none_iff.mp e
    rw [List.getElem?_eq_none_iff.mpr (by omega)]
    rfl
  | some y =>
    obtain ⟨z, ez, rfl⟩ := h i y e
    rw [ez]
    rfl
/-! ### C() by a local name that holds the class -/
def rMkL0 (C : Addr) (sp : Sp) (E : XK) (x : V) (H : Hp) (Q : VK) : Prop := x = .ref C ∧ rMkR C sp E [] H Q
def tMakeRL0 (i : Nat) (C : Addr) (sp : Sp) (E : XK) : TE := fun σ H Q => ∃ x, σ[i]? = some (some x) ∧ rMkL0 C sp E x H Q
theorem c_makeRL0 {i : Nat} {C : Addr} {sp : Sp} {E : XK} {σ : L2.St} {H : Hp} {Q : VK} (e : σ[i]? = some (some (.ref C))) (h : rMkR C sp E [] H Q) : tMakeRL0 i C sp E σ H Q := ⟨_, e, rfl, h⟩
section
variable {X : Cx} {CX : CXT} {k i : Nat} {f C : Addr} {sp : Sp} {E : XK} {x : Str} {p pos : Pos}
theorem pe_makeRL0 (M : Mk X.K C f) (F : FnR X.prog X.w X.K X.mg X.base CX k f sp) (hr : Room (k + 1) X.A) (hN : X.N[i]? = some x) (hv : Vis X.env.scope x) (hx : Passes CX X E) (hdb : (x == ("__debug__" : Str)) = false := by decide) (hcd : (x == ("__classdict__" : Str)) = false := by decide) :
    PE X (.Call (.Name x p) [] [] pos) (tMakeRL0 i C sp E) := by
  refine ⟨fun pins s σ H Q I h => ?_⟩
  obtain ⟨y, hs, ey, ht⟩ := h
  subst ey
  refine wpAny_Call_Name_kw (thn ((pe_var (pos := p) hN hv hdb hcd).run pins s σ H (fun v H1 => v = .ref C ∧ H1 = H) I ⟨.ref C, hs, rfl, rfl⟩) fun u s1 ⟨v, H1, I1, r1, q1⟩ => ?_)
  obtain ⟨rfl, rfl⟩ := q1
  cases r1
  exact PySem.W.callWith_K0 I1.kIn M.kp (StX.run_makeR (us := []) M F hr hx I1 .nil ht)
end
end Und
/-! definitions that print containers: a call with no printing under way -/
namespace Und
open PySem PySem.Spec PyProof.Rows L2
/-- no printing of a container is under way -/
def Still (A : Around) : Prop := A.guards = some []
theorem still_deeper {A : Around} {e : Env} (h : Still A) : Still (A.deeper e) := h
theorem still_caller : Still callerA := rfl
/-- a definition's promise where nothing is being printed -/
structure FnG (P : Program) (w : World) (K : PySem.W.Frag) (mg : Str → Option Value) (base : Heap) (CX : CXT) (k : Nat) (f : Addr) (fd : FuncData) (ps : List Str) (sp : Sp) : Prop where
  n : ∀ vs H Q E, sp vs H Q E → vs.length = ps.length
  go : ∀ (A : Around), Still A → Room k A → ∀ (outer : List Env) (s : Shared) (H : Hp) (args : Args) (us : List Value) (vs : List V) (Q : VK) (E : XK), Env0 P w K mg base A outer s H → BindsTo s fd args (ps.zip us) → Vals vs us → sp vs H Q E →
    codeAny (model P w) A (.call (.ref f) args) (CR CX outer P w H s Q E) s
section
variable {P : Program} {w : World} {K : PySem.W.Frag} {mg : Str → Option Value} {base : Heap} {CX : CXT} {j k : Nat} {f : Addr} {fd : FuncData} {ps N : List Str} {sp : Sp} {x qual : Str} {st : Stmt}
theorem FnG.of (F : FnOk P w K mg base CX k f fd ps sp) : FnG P w K mg base CX k f fd ps sp := ⟨F.len, fun A _ r o s H a us vs Q E => F.run A o s H a us vs Q E r⟩
theorem FnG.mono (F : FnG P w K mg base CX j f fd ps sp) (h : j ≤ k) : FnG P w K mg base CX k f fd ps sp := ⟨F.n, fun A g r => F.go A g (r.mono h)⟩
/-- by its body -/
theorem okG (F : Fun K x qual st f fd) (S : FnScope N ps (defScope st)) (n : ∀ vs H Q E, sp vs H Q E → vs.length = ps.length)
    (body : ∀ (cdv : Value) (A : Around) (outer : List Env) (s : Shared) (H : Hp) (vs : List V) (Q : VK) (E : XK), Still (A.deeper (envOfC qual (defScope st) s.heap.objs.size f cdv)) → Room k (A.deeper (envOfC qual (defScope st) s.heap.objs.size f cdv)) → sp vs H Q E →
      ∃ t, PSs (cxOf CX P w K mg base N qual (defScope st) f cdv A outer s H E) (defBody st) t ∧ t { nx := fun _ H' => Q .non H', rt := Q } (start N vs) H) : FnG P w K mg base CX (k + 1) f fd ps sp := by
  obtain ⟨oc, od, kV, doc, pm, an, cdv, ct, osl, rfl, lk, hcd⟩ := F.ex
  exact ⟨n, fun A g r outer s H args us vs Q E e0 b v h => LamX.run_ofS lk hcd S r e0 b v (n _ _ _ _ h) fun r' => body cdv A outer s H vs Q E g r' h⟩
theorem okG0 (F : Fun K x qual st f fd) (S : FnScope N ps (defScope st)) (n : ∀ vs H Q E, sp vs H Q E → vs.length = ps.length)
    (body : ∀ (cdv : Value) (A : Around) (outer : List Env) (s : Shared) (H : Hp) (vs : List V) (Q : VK) (E : XK), Still (A.deeper (envOfC qual (defScope st) s.heap.objs.size f cdv)) → Room k (A.deeper (envOfC qual (defScope st) s.heap.objs.size f cdv)) → sp vs H Q E →
      ∃ t, PSs (cxOf CX0 P w K mg base N qual (defScope st) f cdv A outer s H E).nox (defBody st) t ∧ t { nx := fun _ H' => Q .non H', rt := Q } (start N vs) H) : FnG P w K mg base CX0 (k + 1) f fd ps sp :=
  okG F S n fun cdv A outer s H vs Q E g r h => let ⟨t, p, q⟩ := body cdv A outer s H vs Q E g r h; ⟨t, p.nox, q⟩
end
section
variable {X : Cx} {CX : CXT} {k : Nat} {f : Addr} {fd : FuncData} {ps : List Str} {sp : Sp} {E : XK} {x : Str} {st : Stmt} {p pos : Pos} {e : Expr} {es : List Expr} {t : TA} {te : TE}
theorem callG {pins : List (Addr × Obj)} {σ : L2.St} {H : Hp} {s : Shared} {Q : VK} {us : List Value} {vs : List V} (F : FnG X.prog X.w X.K X.mg X.base CX k f fd ps sp) (g : Still X.A) (r : Room k X.A) (b : Binds X.K fd ps []) (ex : Passes CX X E)
    (I : Inv X pins σ H s) (v : Vals vs us) (h : sp vs H Q E) : wpAny (model X.prog X.w) X.A (call (.ref f) us) (EP X pins σ Q) X.xe s := by
  have hl : (us ++ []).length = ps.length := by
    rw [List.append_nil, ← v.length]
    exact F.n _ _ _ _ h
  have bb := b s us I.kIn hl
  rw [List.append_nil] at bb
  refine wpAny_call (codeAny_mono (F.go X.A g r X.stack s H ⟨us, []⟩ us vs Q E I.env0 bb v h) fun z s' q => ?_)
  match z, q with
  | .error e, q => exact ex pins σ H s e s' I q
  | .ok (.ret u), q => exact I.after q
/-- f(e, ..) of such a definition -/
theorem pcallG (D : FD X.K X.mg x st ps f fd) (F : FnG X.prog X.w X.K X.mg X.base CX k f fd ps sp) (g : Still X.A) (r : Room k X.A) (hg : Gl X x) (ex : Passes CX X E) (ha : PA X (e :: es) t) (hdb : (x == ("__debug__" : Str)) = false := by decide)
    (he : starEach (e :: es) X.env = (false, eval e X.env) :: starEach es X.env := by rfl) (hpl : (backTo pos (starEach es X.env)).any (·.1) = false := by rfl) : PE X (.Call (.Name x p) (e :: es) [] pos) (tCall sp [] E t) :=
  ⟨fun pins s σ H Q I h => wpAny_Call_Name_kw (ld_glob I hg D.m (PySem.W.callWith_K (h₀ := X.base) I.ok.mod.kin D.F.kp (thn (ha.run pos pins s σ H _ I h) fun us s1 ⟨vs, H1, I1, v, q⟩ => ⟨I1.kIn, callG F g r D.b ex I1 v (by have q' : sp (vs ++ []) H1 Q E := q; rw [List.append_nil] at q'; exact q')⟩) he hpl) hdb)⟩
/-! ### repr -/
/-- repr of data; K is named -/
def crRepr (K : PySem.W.Frag) : List V → Hp → VK → Prop := fun xs H Q => ∃ (a : Addr) (d : PyData), xs = [.ref a] ∧ Dp K H (.ref a) d ∧ d.showable = true ∧ d.hasDict = false ∧ d.depth ≤ 32 ∧ d.shown.length ≤ sizeLine ∧ Q (.str d.shown) H
theorem cr_repr (g : Still X.A) (r : Room k X.A) : CallR X (.builtin "repr") (crRepr X.K) := by
  intro pins s σ H xs us Q I v h
  obtain ⟨a, d, rfl, hd, hs, hn, hz, hl, q⟩ := h
  obtain ⟨u, rfl, hu⟩ : ∃ u, us = [u] ∧ u = Value.ref a := by
    cases v with
    | cons h1 h2 =>
      cases h2
      exact ⟨_, rfl, h1⟩
  subst hu
  obtain ⟨as, rd⟩ := Dp.reads I d _ (.ref a) hd rfl
  have ru := r.units
  exact repr_of_reads' rd hs (fun z => by rw [hn] at z; cases z) g (by omega) (fun _ _ e => e) (fun h' u tk k => ⟨.str d.shown, H, I.kept k, ⟨u, rfl⟩, q⟩) hl
end
/-! ### the law's own call -/
section
variable {P : Program} {w : World} {K : PySem.W.Frag} {mg mb : Str → Option Value} {CX : CXT} {k : Nat} {fa a : Addr} {fd : FuncData} {x : Str} {sp : Sp} {s : Shared} {vs : List Value} {ns : List Int}
/-- how the script is seen: nothing else is, and all else is the base -/
structure Seen (K : PySem.W.Frag) (P : Program) (w : World) (s : Shared) (a : Addr) (ns : List Int) (H : Hp) : Prop where
  only : Only H
  seq : SqL K H a (ns.map V.int)
  ok : HOk P w H s.heap
  base : ∀ b o, s.heap.get? b = some o → H b = none ∨ (b = a ∧ K.lookup a = none)
theorem seen (KX : K.In s.heap) (ha : s.heap.get? a = some { cls := .type "list", data := .seq vs.toArray }) (hi : IntsAre vs ns) (hl : ns.length ≤ sizeLine) : ∃ H, Seen K P w s a ns H := by
  have rv := vals_ints hi
  have le := hi.length
  match hk : K.lookup a with
  | some o =>
    obtain rfl : o = _ := Option.some.inj ((KX a o hk).symm.trans ha)
    exact ⟨fun _ => none, fun _ => .inl rfl, .inr ⟨_, vs.toArray, _, hk, rfl, rfl, rfl, by rw [List.size_toArray, le]; exact hl, by simpa using rv⟩, (fun b u z => by cases (show (none : Option HO) = some u from z)), fun _ _ _ => .inl rfl⟩
  | none =>
    refine ⟨upd (fun _ => none) a (.frz { cls := .type "list", data := .seq vs.toArray } (.lst (ns.map V.int))), fun b => ?_, .inl (.inr ⟨_, upd_same⟩), fun b u z => ?_, fun b o e => ?_⟩
    · by_cases e : b = a
      · rw [e]
        exact .inr ⟨_, _, upd_same⟩
      · rw [upd_ne e]
        exact .inl rfl
    · by_cases e : b = a
      · rw [e, upd_same] at z
        cases z
        rw [e]
        exact ⟨ha, by rw [List.length_map]; exact hl, vs, _, rv, ha⟩
      · rw [upd_ne e] at z
        cases z
    · by_cases e : b = a
      · exact .inr ⟨e, hk⟩
      · rw [upd_ne e]
        exact .inl rfl
theorem Seen.at {H : Hp} {b : Addr} {o : Obj} (S : Seen K P w s a ns H) (e : s.heap.get? b = some o) (n : K.lookup b ≠ none ∨ b ≠ a) : (hidT s.heap H).get? b = some o :=
  hidT_get e ((S.base b o e).elim id fun ⟨h, h'⟩ => n.elim (fun q => absurd (h ▸ h') q) fun q => absurd h q)
theorem Seen.names {H : Hp} {b : Addr} {m : Str → Option Value} (S : Seen K P w s a ns H) (ha : s.heap.get? a = some { cls := .type "list", data := .seq vs.toArray }) (h : s.heap.Ns b m) : (hidT s.heap H).Ns b m := by
  obtain ⟨o, es, ep, e, d, r⟩ := h
  refine ⟨o, es, ep, S.at e (.inr fun z => ?_), d, r⟩
  rw [z, ha] at e
  cases e
  cases d
/-- the law's call with its script, where the promise holds while nothing is being printed -/
theorem law_callG (KX : K.In s.heap) (hns : s.heap.Ns mainGlobals mg) (hb : s.heap.Ns builtinsNs mb) (hbb : ∀ x : Str, x ≠ "__name__" → mb x = bootBuiltins x) (hlim : s.heap.NoLimit) (hg : s.gens = #[])
    (ha : s.heap.get? a = some { cls := .type "list", data := .seq vs.toArray }) (hi : IntsAre vs ns) (hl : ns.length ≤ sizeLine) (hr : Room k callerA)
    (F : ∀ base : Heap, K.In base → base.Ns mainGlobals mg → FnG P w K mg base CX k fa fd [x] sp) (hbind : ∀ (s : Shared) (u : Value), BindsTo s fd ⟨[u], []⟩ [(x, u)])
    (hsp : ∀ H : Hp, Only H → SqL K H a (ns.map V.int) → sp [.ref a] H (fun v _ => v = .bl true) fun _ _ _ => False)
    (hCX : ∀ H e s', CX [] H s (fun _ _ _ => False) e s' → False) :
    codeAny (model P w) callerA (.call (.ref fa) ⟨[.ref a], []⟩) (fun r s' => r = .ok (.ret (.bool true)) ∧ OldK s.heap s'.heap ∧ s'.os = s.os ∧ AllBare s'.gens) s := by
  obtain ⟨H, S⟩ := seen (P := P) (w := w) KX ha hi hl
  have kb : K.In (hidT s.heap H) := fun b o e => S.at (KX b o e) (.inl fun z => by rw [e] at z; cases z)
  have mod : Mod K mg (hidT s.heap H) := ⟨kb, S.names ha hns, ⟨mb, S.names ha hb, hbb⟩, hlim.elim fun mc h => ⟨mc, S.names ha h.1, h.2⟩⟩
  have no : ∀ b : Addr, b ∉ frs ([] : List Env) := fun b z => nomatch (show b ∈ ([] : List Addr) from z)
  have e0 : Env0 P w K mg (hidT s.heap H) callerA [] s H := ⟨rfl, mod, fun _ _ => of_hidT, Nat.le_of_eq (hidT_size _ _), trivial, fun b z => absurd z (no b), S.ok, .of_eq hg⟩
  refine codeAny_mono ((F _ kb mod.glob).go callerA still_caller hr [] s H _ [.ref a] [.ref a] _ _ e0 (hbind s (.ref a)) (.cons rfl .nil) (hsp H S.only S.seq)) fun r s' h => ?_
  match r, h with
  | .error e, h => exact (hCX H e s' h).elim
  | .ok (.ret u), ⟨v, H', os, bare, un, ok', rv, (qv : v = .bl true)⟩ =>
    subst qv
    obtain rfl : u = Value.bool true := rv
    refine ⟨rfl, OldK.of_keep fun b o e => ?_, os, bare⟩
    rcases S.only b with n | ⟨o', xs, n⟩
    · exact un.keep b o e n (no b) (by simp)
    · have o1 := (S.ok b _ n).1
      have o2 := (ok' b _ (un.frzs b o' _ n)).1
      rw [e] at o1
      cases o1
      exact o2
end
theorem walk_ofG {l : PySem.W.OpenLaw} {n k : Nat} {q : Program} {loose : List Str} {XP : (Str → Option Value) → Heap → Prop} {YP : World → Heap → Prop} {d : DefRec} {K : Params → PySem.W.Frag} {CX : World → CXT} {sp : World → Sp} {x : Str}
    (hn : l.most = some n) (hn2 : n ≤ sizeLine) (hdf : d.params.defaults = []) (hr : Room k callerA)
    (hY : ∀ (w : World) (h : Heap), YP w h → (K w.params).In h)
    (F : ∀ (w : World) (mg : Str → Option Value) (fa : Addr) (h : Heap), (K w.params).In h → h.Ns mainGlobals mg → mg d.name = some (.ref fa) →
      ∃ fd : FuncData, (∀ (s : Shared) (u : Value), BindsTo s fd ⟨[u], []⟩ [(x, u)]) ∧
        ∀ base : Heap, (K w.params).In base → base.Ns mainGlobals mg → FnG l.prog w (K w.params) mg base (CX w) k fa fd [x] (sp w))
    (hsp : ∀ (w : World) (H : Hp) (a : Addr) (ns : List Int), ns.length ≤ n → (∀ z ∈ ns, Builtin.Int.intBits z ≤ 1048576) → Only H → SqL (K w.params) H a (ns.map V.int) → sp w [.ref a] H (fun v _ => v = .bl true) fun _ _ _ => False)
    (hCX : ∀ (w : World) (H : Hp) (s : Shared) (e : Value) (s' : Shared), CX w [] H s (fun _ _ _ => False) e s' → False) :
    PySem.W.WalkO q loose XP YP l.row.toRowW d [] (fun f vs => PySem.call f vs) :=
  Att.attach_callB hn hdf fun w _ s mg mb fa _ _ _ _ a vs ns G Y _ _ _ hmg hobj hints hlen hbits hg =>
    let KX := hY w _ Y
    let ⟨fd, hb, hF⟩ := F w mg fa _ KX G.T.g hmg
    law_callG KX G.T.g G.T.b G.T.builtins G.T.nolimit hg hobj hints (Nat.le_trans hlen hn2) hr hF hb (fun H hO hS => hsp w H a ns hlen hbits hO hS) fun H e s' => hCX w H s e s'
end Und
/-! calls without arguments -/
namespace Und
open PySem PySem.Spec PyProof.Rows L2
section
variable {X : Cx} {CX : CXT} {k : Nat} {f : Addr} {fd : FuncData} {sp : Sp} {E : XK} {x : Str} {st : Stmt} {p pos : Pos}
theorem pcallG0 (D : FD X.K X.mg x st [] f fd) (F : FnG X.prog X.w X.K X.mg X.base CX k f fd [] sp) (g : Still X.A) (r : Room k X.A) (hg : Gl X x) (ex : Passes CX X E) (hdb : (x == ("__debug__" : Str)) = false := by decide) :
    PE X (.Call (.Name x p) [] [] pos) (tCall sp [] E tNil) :=
  ⟨fun pins s σ H Q I h => wpAny_Call_Name_kw (ld_glob I hg D.m (PySem.W.callWith_K0 I.kIn D.F.kp (callG (us := []) F g r D.b ex I .nil h)) hdb)⟩
theorem pcall0 (D : FD X.K X.mg x st [] f fd) (F : FnOk X.prog X.w X.K X.mg X.base CX k f fd [] sp) (r : Room k X.A) (hg : Gl X x) (ex : Passes CX X E) (hdb : (x == ("__debug__" : Str)) = false := by decide) :
    PE X (.Call (.Name x p) [] [] pos) (tCall sp [] E tNil) := pe_call0 F r hg D.m D.F.kp D.b .nil ex hdb
end
end Und
/-! methods called by keyword; len, repr and in of a class's own; f-strings -/
namespace Und
open PySem PySem.Spec PyProof.Rows L2
def gK (n m : Nat) {α : Type} (us ws : List α) : List α := if us.length = n ∧ ws.length = m then us ++ ws else []
theorem gK_rel {n m : Nat} {vs : List V} {us : List Value} {zs : List V} {ws : List Value} (a : Vals vs us) (b : Vals zs ws) : Vals (gK n m vs zs) (gK n m us ws) := by
  unfold gK
  rw [a.length, b.length]
  split
  · exact a.append b
  · exact .nil
section
variable {K : PySem.W.Frag} {x qual : Str} {params : Arguments} {body : List Stmt} {scope : Scope} {dvs : List V} {kws : List (Str × V)} {f : Addr} {fd : FuncData} {ps ks : List Str}
theorem kb0 (F : FunD K x qual params body scope [] kws f fd) (n : Nat) (hps : ps ≠ [])
    (h : ∀ (kV doc pm : Value) (an : Option Addr) (cdv ct : Value) (us ws : List Value), us.length = n → ws.length = ks.length → bindArgs (PySem.W.fnOf x qual params body scope .none kV doc pm an cdv ct) ⟨us, ks.zip ws⟩ = pure (ps.zip (us ++ ws))) :
    KBinds K fd ps ks (gK n ks.length) (gK n ks.length) := by
  obtain ⟨oc, od, dV, kV, doc, pm, an, cdv, ct, osl, rfl, lk, hcd, hD, hK⟩ := F.ex
  rcases hD with ⟨_, rfl⟩ | ⟨e, _⟩
  · refine ⟨fun s us ws _ hl => ?_, gK_rel⟩
    by_cases c : us.length = n ∧ ws.length = ks.length
    · have e : gK n ks.length us ws = us ++ ws := if_pos c
      rw [e]
      exact .of_eq (h kV doc pm an cdv ct us ws c.1 c.2)
    · have e : gK n ks.length us ws = [] := if_neg c
      rw [e] at hl
      exact absurd (List.length_eq_zero_iff.mp hl.symm) hps
  · exact absurd rfl e
theorem kb1 (F : FunD K x qual params body scope dvs kws f fd) (n : Nat) (hd : dvs ≠ []) (hps : ps ≠ [])
    (h : ∀ (T : Addr) (kV doc pm : Value) (an : Option Addr) (cdv ct : Value) (us ws its : List Value), us.length = n → ws.length = ks.length → its.length = dvs.length →
      ∃ k, bindArgs (PySem.W.fnOf x qual params body scope (.ref T) kV doc pm an cdv ct) ⟨us, ks.zip ws⟩ = seqItems? (.ref T) >>= k ∧ k (some its.toArray) = pure (ps.zip (us ++ ws))) :
    KBinds K fd ps ks (gK n ks.length) (gK n ks.length) := by
  obtain ⟨oc, od, dV, kV, doc, pm, an, cdv, ct, osl, rfl, lk, hcd, hD, hK⟩ := F.ex
  rcases hD with ⟨e, _⟩ | ⟨_, T, o, its, m, rfl, lT, oT, rT⟩
  · exact absurd e hd
  · refine ⟨fun s us ws X hl => ?_, gK_rel⟩
    by_cases c : us.length = n ∧ ws.length = ks.length
    · have e : gK n ks.length us ws = us ++ ws := if_pos c
      rw [e]
      obtain ⟨k, e1, e2⟩ := h T kV doc pm an cdv ct us ws its c.1 c.2 rT.length.symm
      refine BindsTo.of_looks fun M => ?_
      rw [e1]
      exact looks_items X lT oT (.of_pure e2)
    · have e : gK n ks.length us ws = [] := if_neg c
      rw [e] at hl
      exact absurd (List.length_eq_zero_iff.mp hl.symm) hps
end
section
variable {X : Cx} {CX : CXT} {k n : Nat} {C f g p : Addr} {mc : Value} {fd : FuncData} {ps ks : List Str} {sp : Sp} {E : XK} {o : Expr} {m : Str} {kws : List Keyword} {pos apos : Pos} {ta : TE} {tk : TA} {pl : Sem Bool}
theorem run_kw {pins : List (Addr × Obj)} {σ : L2.St} {H : Hp} {s : Shared} {Q : VK} {us ws : List Value} {vs zs : List V} (F : FnOk X.prog X.w X.K X.mg X.base CX k f fd ps sp) (hr : Room k X.A) (hb : KBinds X.K fd ps ks (gK vs.length ks.length) (gK vs.length ks.length)) (hx : Passes CX X E)
    (I : Inv X pins σ H s) (r : Vals vs us) (rz : Vals zs ws) (hz : zs.length = ks.length) (h : sp (vs ++ zs) H Q E) : codeAny (model X.prog X.w) X.A (.call (.ref f) ⟨us, ks.zip ws⟩) (fun r s' => match r with
      | .ok (.ret u) => EP X pins σ Q u s'
      | .ok _ => False
      | .error e => X.xe e s') s := by
  have r2 := hb.rel r rz
  have e : gK vs.length ks.length vs zs = vs ++ zs := if_pos ⟨rfl, hz⟩
  have hl : (gK vs.length ks.length us ws).length = ps.length := by
    rw [← r2.length, e]
    exact F.len _ _ _ _ h
  rw [e] at r2
  refine codeAny_mono (F.run X.A X.stack s H ⟨us, ks.zip ws⟩ _ (vs ++ zs) Q E hr I.env0 (hb.to s us ws I.kIn hl) r2 h) fun r s' hq => ?_
  match r, hq with
  | .error e, hq => exact hx pins σ H s e s' I hq
  | .ok (.ret u), hq => exact I.after hq
  | .ok .next, hq => exact hq
  | .ok .brk, hq => exact hq
  | .ok .cont, hq => exact hq
/-- o.m(k = v, ..) -/
def tMethK (C : Addr) (m : Str) (nk : Nat) (sp : Sp) (E : XK) (ta : TE) (tk : TA) : TE := fun σ H Q => ta σ H fun x H1 => ∃ a dx fs, x = .ref a ∧ H1 a = some (.ins C dx fs) ∧ fs.lookup m = none ∧ tk σ H1 fun zs H2 => zs.length = nk ∧ sp (.ref a :: zs) H2 Q E
theorem pe_methK0 (he : PE X o ta) (c : Cls X.K C) (hm : Meth X.K C m f) (F : FnOk X.prog X.w X.K X.mg X.base CX k f fd ps sp) (hr : Room k X.A) (hb : KBinds X.K fd ps ks (gK 1 ks.length) (gK 1 ks.length)) (hx : Passes CX X E) (hkw : PK X kws tk)
    (hall : (backToKw pos (keywordEach kws X.env)).all (·.1.isSome) = true := by rfl) (hks : (backToKw pos (keywordEach kws X.env)).filterMap (·.1) = ks := by rfl)
    (hpl : ((backTo pos (starEach [] X.env)).any (·.1) || (backToKw pos (keywordEach kws X.env)).any (·.1.isNone)) = false := by rfl)
    (ht : eval (.Call (.Attribute o m apos) [] kws pos) X.env = (do
      let ov ← eval o X.env
      standAt apos.atName
      let (f, first) ← holding [ov] (getMethod ov m pl)
      callWith pos f first (backTo pos (starEach [] X.env)) (backToKw pos (keywordEach kws X.env))) := by rfl) : PE X (.Call (.Attribute o m apos) [] kws pos) (tMethK C m ks.length sp E ta tk) := by
  constructor
  intro pins s σ H Q I h
  refine PySem.W.methodCall_KW (pl := pl) (thn (he.run pins s σ H _ I h) ?_) ht
  rintro u s1 ⟨x, H1, I1, rx, a, dx, fs, rfl, ea, l, q⟩
  obtain rfl : u = Value.ref a := rx
  refine getmeth_ok I1 ea c hm l (PySem.W.callWith_KW0 (first := [.ref a]) (h₀ := X.base) I1.ok.mod.kin hm.kp hall ?_ hpl)
  refine thn (hkw.run pos pins s1 σ H1 _ I1 q) ?_
  rintro ws s2 ⟨zs, H2, I2, rz, hz, q2⟩
  refine ⟨I2.kIn, ?_⟩
  rw [hks]
  exact wpAny_call (run_kw (us := [.ref a]) (vs := [.ref a]) F hr hb hx I2 (.cons rfl .nil) rz hz q2)
/-- C.m(k = v, ..), m a static method -/
def tSMethK (C : Addr) (nk : Nat) (sp : Sp) (E : XK) (ta : TE) (tk : TA) : TE := fun σ H Q => ta σ H fun x H1 => x = .ref C ∧ tk σ H1 fun zs H2 => zs.length = nk ∧ sp zs H2 Q E
theorem pe_smethK0 (he : PE X o ta) (r : ClX.CRead X.K C mc) (c : CStat X.K C mc m p g) (F : FnOk X.prog X.w X.K X.mg X.base CX k g fd ps sp) (hr : Room k X.A) (hb : KBinds X.K fd ps ks (gK 0 ks.length) (gK 0 ks.length)) (hx : Passes CX X E) (hkw : PK X kws tk)
    (hall : (backToKw pos (keywordEach kws X.env)).all (·.1.isSome) = true := by rfl) (hks : (backToKw pos (keywordEach kws X.env)).filterMap (·.1) = ks := by rfl)
    (hpl : ((backTo pos (starEach [] X.env)).any (·.1) || (backToKw pos (keywordEach kws X.env)).any (·.1.isNone)) = false := by rfl)
    (ht : eval (.Call (.Attribute o m apos) [] kws pos) X.env = (do
      let ov ← eval o X.env
      standAt apos.atName
      let (f, first) ← holding [ov] (getMethod ov m pl)
      callWith pos f first (backTo pos (starEach [] X.env)) (backToKw pos (keywordEach kws X.env))) := by rfl) : PE X (.Call (.Attribute o m apos) [] kws pos) (tSMethK C ks.length sp E ta tk) := by
  constructor
  intro pins s σ H Q I h
  refine PySem.W.methodCall_KW (pl := pl) (thn (he.run pins s σ H _ I h) ?_) ht
  rintro u s1 ⟨x, H1, I1, rx, rfl, q⟩
  obtain rfl : u = Value.ref C := rx
  obtain ⟨rest, hp⟩ := c.rc
  refine PySem.W.method_cls I1.kIn r.ga (PySem.W.cls_bind I1.kIn r.rd c.at_ (wpAny_call (PySem.W.sm_get (s := { s1 with toks := s1.toks + 1 }) I1.kIn hp (PySem.W.handed_on rfl ?_))))
  have I2 := I1.tok (s1.toks + 1)
  refine PySem.W.callWith_KW0 (first := []) (h₀ := X.base) I2.ok.mod.kin c.kp hall ?_ hpl
  refine thn (hkw.run pos pins _ σ H1 _ I2 q) ?_
  rintro ws s2 ⟨zs, H2, I3, rz, hz, q2⟩
  refine ⟨I3.kIn, ?_⟩
  rw [hks]
  exact wpAny_call (run_kw (us := []) (vs := []) F hr hb hx I3 .nil rz hz q2)
/-- C.m(k = v, ..), m a class method -/
def tCMethK (C : Addr) (nk : Nat) (sp : Sp) (E : XK) (ta : TE) (tk : TA) : TE := fun σ H Q => ta σ H fun x H1 => x = .ref C ∧ tk σ H1 fun zs H2 => zs.length = nk ∧ sp (.ref C :: zs) H2 Q E
theorem pe_cmethK0 (he : PE X o ta) (r : ClX.CRead X.K C mc) (c : ClX.CMet X.K C mc m p g) (F : FnOk X.prog X.w X.K X.mg X.base CX k g fd ps sp) (hr : Room k X.A) (hb : KBinds X.K fd ps ks (gK 1 ks.length) (gK 1 ks.length)) (hx : Passes CX X E) (hkw : PK X kws tk)
    (hall : (backToKw pos (keywordEach kws X.env)).all (·.1.isSome) = true := by rfl) (hks : (backToKw pos (keywordEach kws X.env)).filterMap (·.1) = ks := by rfl)
    (hpl : ((backTo pos (starEach [] X.env)).any (·.1) || (backToKw pos (keywordEach kws X.env)).any (·.1.isNone)) = false := by rfl)
    (ht : eval (.Call (.Attribute o m apos) [] kws pos) X.env = (do
      let ov ← eval o X.env
      standAt apos.atName
      let (f, first) ← holding [ov] (getMethod ov m pl)
      callWith pos f first (backTo pos (starEach [] X.env)) (backToKw pos (keywordEach kws X.env))) := by rfl) : PE X (.Call (.Attribute o m apos) [] kws pos) (tCMethK C ks.length sp E ta tk) := by
  constructor
  intro pins s σ H Q I h
  refine PySem.W.methodCall_KW (pl := pl) (thn (he.run pins s σ H _ I h) ?_) ht
  rintro u s1 ⟨x, H1, I1, rx, rfl, q⟩
  obtain rfl : u = Value.ref C := rx
  refine ClX.getmethcm_ok I1 r c fun s2 I2 => ?_
  refine PySem.W.callWith_of hpl (PySem.W.keeps_M (self := .ref C) (q := s1.heap.objs.size) c.fi) (evalArgs_kw2_nil hall ?_)
  refine thn (hkw.run pos _ s2 σ H1 _ I2 q) ?_
  rintro ws s3 ⟨zs, H2, I3, rz, hz, q2⟩
  refine ⟨⟨ClX.pin_at I3, I3.kIn⟩, ?_⟩
  rw [hks]
  have z := wpAny_call (PySem.W.method_call (ClX.pin_at I3) (run_kw (us := [.ref C]) (vs := [.ref C]) F hr hb hx I3 (.cons rfl .nil) rz hz q2))
  exact thn z fun _ _ y => ClX.unpinE y
end
section
variable {σ : L2.St} {H : Hp} {Q : VK} {C : Addr} {m : Str} {nk : Nat} {sp : Sp} {E : XK} {ta : TE} {tk : TA}
theorem c_methK (h : ta σ H fun x H1 => ∃ a dx fs, x = .ref a ∧ H1 a = some (.ins C dx fs) ∧ fs.lookup m = none ∧ tk σ H1 fun zs H2 => zs.length = nk ∧ sp (.ref a :: zs) H2 Q E) : tMethK C m nk sp E ta tk σ H Q := h
theorem c_smethK (h : ta σ H fun x H1 => x = .ref C ∧ tk σ H1 fun zs H2 => zs.length = nk ∧ sp zs H2 Q E) : tSMethK C nk sp E ta tk σ H Q := h
theorem c_cmethK (h : ta σ H fun x H1 => x = .ref C ∧ tk σ H1 fun zs H2 => zs.length = nk ∧ sp (.ref C :: zs) H2 Q E) : tCMethK C nk sp E ta tk σ H Q := h
end
/-! ### len, repr, in, truth of a class's own -/
structure OwnM (K : PySem.W.Frag) (C : Addr) (m : Str) (f : Addr) : Prop where
  at_ : PySem.W.findIn K (.ref C) m = some (some (.ref f))
  fn : PySem.W.isFn K (.ref f) = true
section
variable {X : Cx} {CX : CXT} {n : Nat} {C f : Addr} {fd : FuncData} {ps : List Str} {sp : Sp} {E : XK}
def rLenO (C : Addr) (sp : Sp) (E : XK) : List V → Hp → VK → Prop := fun xs H Q => ∃ a dx fs, xs = [.ref a] ∧ H a = some (.ins C dx fs) ∧ sp [.ref a] H (fun z H' => ∃ r : Nat, z = .int (r : Int) ∧ r ≤ 1000000 ∧ Q (.int (r : Int)) H') E
theorem callLenO (W : OwnM X.K C "__len__" f) (F : FnOk X.prog X.w X.K X.mg X.base CX n f fd ps sp) (hr : Room (n + 1) X.A) (hb : Binds X.K fd ps []) (hx : Passes CX X E) : CallR X (.builtin "len") (rLenO C sp E) := by
  intro pins s σ H xs us Q I r h
  obtain ⟨a, dx, fs, rfl, ha, q⟩ := h
  obtain ⟨u, rfl, ru⟩ := vals1 r
  cases ru
  obtain ⟨mA, J, _⟩ := ins_get I.hok ha
  obtain ⟨od, J, _⟩ := J.look
  obtain ⟨m, hF⟩ := I.fr
  refine PySem.W.len_K hF I.ok.mod.kin J W.at_ W.fn (wpAny_mono (own_call1 F hb hx I hr.in1 rfl q) (fun w s' z => ?_) fun _ _ z => z)
  obtain ⟨v, H', I', rv, r, rfl, hl, qk⟩ := z
  obtain ⟨t, rfl⟩ := rv
  exact ⟨⟨by omega, by omega⟩, .int r, H', I'.tok _, ⟨_, rfl⟩, qk⟩
def rReprO (C : Addr) (sp : Sp) (E : XK) : List V → Hp → VK → Prop := fun xs H Q => ∃ a dx fs, xs = [.ref a] ∧ H a = some (.ins C dx fs) ∧ sp [.ref a] H (fun z H' => ∃ r, z = .str r ∧ Q (.str r) H') E
theorem callReprO (W : OwnM X.K C "__repr__" f) (F : FnOk X.prog X.w X.K X.mg X.base CX n f fd ps sp) (hr : Room (n + 1) X.A) (hb : Binds X.K fd ps []) (hx : Passes CX X E) : CallR X (.builtin "repr") (rReprO C sp E) := by
  intro pins s σ H xs us Q I r h
  obtain ⟨a, dx, fs, rfl, ha, q⟩ := h
  obtain ⟨u, rfl, ru⟩ := vals1 r
  cases ru
  obtain ⟨mA, J, _⟩ := ins_get I.hok ha
  obtain ⟨od, J, _⟩ := J.look
  obtain ⟨m, hF⟩ := I.fr
  have h2 : Room n X.A.in1 := hr.in1
  refine PySem.W.repr_K h2.units0 hF I.ok.mod.kin J W.at_ W.fn (wpAny_mono (own_call1 F hb hx I h2 rfl q) (fun w s' z => ?_) fun _ _ z => z)
  obtain ⟨v, H', I', rv, r, rfl, qk⟩ := z
  obtain ⟨t, rfl⟩ := rv
  exact ⟨.str r, H', I', ⟨t, rfl⟩, qk⟩
end
/-! ### f-strings -/
section
variable {σ : L2.St} {H : Hp} {Q : VK} {te : TE} {R : Str → Hp → Prop} {ts : List TE} {acc : Str}
def tJsE (ts : List TE) : TE := fun σ H Q => tJs ts Str.empty σ H fun out H1 => Q (.str out) H1
theorem peJs {X : Cx} {v1 v2 : Expr} {rest : List Expr} {pos : Pos} (h : PJ X (v1 :: v2 :: rest) ts) : PE X (.JoinedStr (v1 :: v2 :: rest) pos) (tJsE ts) := pe_joined h
def rFmt (x : V) (H : Hp) (Q : VK) : Prop := (∃ y : Str, x = .str y ∧ y.length ≤ sizeLine ∧ Q (.str y) H) ∨ ∃ i : Int, x = .int i ∧ i.natAbs.log2 < 1920 ∧ Q (.str (toString i)) H
theorem c_fmt (h : te σ H fun x H1 => rFmt x H1 Q) : tFmt te σ H Q := h
theorem c_fmtS {y : Str} (hy : y.length ≤ 1000000) (h : Q (.str y) H) : rFmt (.str y) H Q := .inl ⟨y, rfl, Nat.le_trans hy (by decide), h⟩
theorem c_fmtI {i : Int} (hi : i.natAbs.log2 < 1920) (h : Q (.str (toString i)) H) : rFmt (.int i) H Q := .inr ⟨i, rfl, hi, h⟩
theorem c_jsE (h : tJs ts Str.empty σ H fun out H1 => Q (.str out) H1) : tJsE ts σ H Q := h
def rJs (ts : List TE) (acc : Str) (σ : L2.St) (x : V) (H : Hp) (R : Str → Hp → Prop) : Prop := ∃ y : Str, x = .str y ∧ (acc ++ y).length ≤ sizeLine ∧ tJs ts (acc ++ y) σ H R
theorem c_js (h : te σ H fun x H1 => rJs ts acc σ x H1 R) : tJs (te :: ts) acc σ H R := h
theorem c_js0 (h : R acc H) : tJs [] acc σ H R := h
theorem c_rjs {y : Str} (hy : (acc ++ y).length ≤ 10000000) (h : tJs ts (acc ++ y) σ H R) : rJs ts acc σ (.str y) H R := ⟨y, rfl, Nat.le_trans hy (by decide), h⟩
end
end Und
/-! in, == with any value, truth of a class's own -/
namespace Und
open PySem PySem.Spec PyProof.Rows L2 Builtin
section
variable {X : Cx} {CX : CXT} {n : Nat} {C f : Addr} {fd : FuncData} {ps : List Str} {sp : Sp} {E : XK}
theorem own_call2 {A : Around} {pins : List (Addr × Obj)} {σ : L2.St} {H : Hp} {s : Shared} {a : Addr} {y : V} {v : Value} {Q : VK} (F : FnOk X.prog X.w X.K X.mg X.base CX n f fd ps sp) (hb : Binds X.K fd ps []) (hx : Passes CX X E) (I : Inv X pins σ H s) (hr : Room n A) (hf : A.frames = X.A.frames)
    (ry : RelV y v) (h : sp [.ref a, y] H Q E) : wpAny (model X.prog X.w) A (call (.ref f) [.ref a, v]) (EP X pins σ Q) X.xe s := by
  have e0 : Env0 X.prog X.w X.K X.mg X.base A X.stack s H := by
    have e := I.env0
    exact ⟨by rw [hf]; exact e.frames, e.mod, e.bs, e.bsz, e.funs, e.frf, e.hok, e.bare⟩
  have hl := F.len _ _ _ _ h
  have r2 : Vals [V.ref a, y] [Value.ref a, v] := .cons rfl (.cons ry .nil)
  refine wpAny_call (codeAny_mono (F.run A X.stack s H ⟨[.ref a, v], []⟩ [.ref a, v] [.ref a, y] Q E hr e0 (by
    have z := hb s [.ref a, v] I.kIn (by simpa using hl)
    simpa using z) r2 h) fun r s' hq => ?_)
  cases r with
  | error e => exact hx pins σ H s e s' I hq
  | ok fl =>
    cases fl with
    | ret w => exact I.after hq
    | next => exact False.elim hq
    | brk => exact False.elim hq
    | cont => exact False.elim hq
/-! ### x in obj -/
def rInO (C : Addr) (sp : Sp) (E : XK) (neg : Bool) : R2 := fun x y H Q => ∃ b dy gs, y = .ref b ∧ H b = some (.ins C dy gs) ∧ sp [.ref b, x] H (fun z H' => ∃ k, z = .bl k ∧ Q (.bl (if neg then !k else k)) H') E
theorem opInO (W : OwnM X.K C "__contains__" f) (F : FnOk X.prog X.w X.K X.mg X.base CX n f fd ps sp) (hr : Room n X.A) (hb : Binds X.K fd ps []) (hx : Passes CX X E) : OpR X (compareOp .In) (rInO C sp E false) := by
  intro pins s σ H x y v u Q I rx ry h
  obtain ⟨b, dy, gs, rfl, hb', q⟩ := h
  cases ry
  obtain ⟨mA, J, _⟩ := ins_get I.hok hb'
  obtain ⟨od, J, _⟩ := J.look
  obtain ⟨m, hF⟩ := I.fr
  refine PySem.W.in_K hF I.ok.mod.kin J W.at_ W.fn ?_
  refine wpAny_mono (own_call2 F hb hx I hr rfl rx q) (fun w s' z => ?_) fun _ _ z => z
  obtain ⟨v, H', I', rv, k, rfl, qk⟩ := z
  cases rv
  exact wpAny_truthy_bool ⟨.bl k, H', I', rfl, qk⟩
theorem opNotInO (W : OwnM X.K C "__contains__" f) (F : FnOk X.prog X.w X.K X.mg X.base CX n f fd ps sp) (hr : Room n X.A) (hb : Binds X.K fd ps []) (hx : Passes CX X E) : OpR X (compareOp .NotIn) (rInO C sp E true) := by
  intro pins s σ H x y v u Q I rx ry h
  obtain ⟨b, dy, gs, rfl, hb', q⟩ := h
  cases ry
  obtain ⟨mA, J, _⟩ := ins_get I.hok hb'
  obtain ⟨od, J, _⟩ := J.look
  obtain ⟨m, hF⟩ := I.fr
  refine PySem.W.notIn_K hF I.ok.mod.kin J W.at_ W.fn ?_
  refine wpAny_mono (own_call2 F hb hx I hr rfl rx q) (fun w s' z => ?_) fun _ _ z => z
  obtain ⟨v, H', I', rv, k, rfl, qk⟩ := z
  cases rv
  exact wpAny_truthy_bool ⟨.bl (!k), H', I', rfl, qk⟩
theorem c_inO {neg : Bool} {H : Hp} {Q : VK} {x : V} {b dy : Addr} {gs : List (Str × V)} (h : H b = some (.ins C dy gs)) (q : sp [.ref b, x] H (fun z H' => ∃ k, z = .bl k ∧ Q (.bl (if neg then !k else k)) H') E) : rInO C sp E neg x (.ref b) H Q := ⟨b, dy, gs, rfl, h, q⟩
/-! ### obj == any value -/
theorem notFirst_of {K : PySem.W.Frag} {t : Value} (h : PySem.W.kitOne K t (.ref C) = some false) : PySem.W.notFirst K C t = true := by
  unfold PySem.W.kitOne at h
  by_cases e : (t == Value.ref C) = true
  · rw [if_pos e] at h
    cases h
  · rw [if_neg e] at h
    simp only [PySem.W.kitCls] at h
    split at h
    · unfold PySem.W.notFirst
      rw [h]
      simp
    · cases h
def rOwnX (K : PySem.W.Frag) (C : Addr) (sp : Sp) (E : XK) (neg : Bool) : R2 := fun x y H Q => ∃ a dx fs t, x = .ref a ∧ H a = some (.ins C dx fs) ∧ TyX K H y t ∧ PySem.W.kitOne K t (.ref C) = some false ∧ sp [.ref a, y] H (fun z H' => ∃ k, z = .bl k ∧ Q (.bl (if neg then !k else k)) H') E
theorem opEqOwnX {K : PySem.W.Frag} (W : EqOwn X.K C f) (F : FnOk X.prog X.w X.K X.mg X.base CX n f fd ps sp) (hr : Room n X.A) (hb : Binds X.K fd ps []) (hx : Passes CX X E) (hK : X.K = K := by rfl) : OpR X (compareOp .Eq) (rOwnX K C sp E false) := by
  subst hK
  intro pins s σ H x y v u Q I rx ry h
  obtain ⟨a, dx, fs, t, rfl, ha, ty, kt, q⟩ := h
  cases rx
  obtain ⟨mA, J, _⟩ := ins_get I.hok ha
  obtain ⟨od, J, _⟩ := J.look
  obtain ⟨m, hF⟩ := I.fr
  obtain ⟨P, Z, p, _⟩ := kit_of I ry ty
  show wpAny (model X.prog X.w) X.A (richCompare .Eq (.ref a) u) (EP X pins σ Q) X.xe s
  refine PySem.W.cmp_K (op := .Eq) (tb := t) hr.units0 hF I.ok.mod.kin J (Z.ty _ _ I.kIn p) (notFirst_of kt) W.eq W.fn ?_
  refine wpAny_mono (own_call2 F hb hx I hr rfl ry q) (fun w s' z => ?_) fun _ _ z => z
  obtain ⟨v, H', I', rv, k, rfl, qk⟩ := z
  cases rv
  exact ⟨.bl k, H', I', rfl, qk⟩
end
section
variable {prog : Program} {w : World} {A : Around} {E : Value → Shared → Prop} {s : Shared} {K : PySem.W.Frag} {x C f : Addr} {ox : Obj} {od : Option Obj} {y tb : Value}
theorem rich_neX (X : K.In s.heap) (I : PySem.W.InstAt s.heap x ox C od) (hb : PySem.W.Looks (model prog w) s.heap (typeOf y) tb) (hn : PySem.W.notFirst K C tb = true) (W : EqOwn K C f) (hu : A.units + 1 < cLine) {Q : Value → Shared → Prop}
    (h : wpAny (model prog w) A.in1 (call (.ref f) [.ref x, y]) (fun v s' => ∃ k, v = .bool k ∧ Q (.bool (!k)) s') E s) : wpAny (model prog w) A (richCompare .NotEq (.ref x) y) Q E s := by
  have one : wpAny (model prog w) A (tryCompare (.ref x) "__ne__" y) (fun r s' => ∃ v, r = some v ∧ Q v s') E s := by
    unfold tryCompare
    refine wpAny_bind (bound_ne X I W (wpAny_call (codeAny_call_builtin F.cmp_object.ne.plain F.cmpEntry_ne (PySem.W.check_slot F.cmpKind_ne F.cmpSplit_ne (I.type.andThen (PySem.W.looks_mroIn X W.ob)) (F.cmpArgs_ne _ _)
      (entry_ne (A := A.in1) X I W hu (wpAny_mono h (fun v s' z => ?_) fun _ _ z => z))))))
    obtain ⟨k, rfl, q⟩ := z
    exact ⟨k, rfl, wpAny_pure ⟨_, rfl, q⟩⟩
  unfold richCompare
  simp only [oneThing_ref]
  refine wpAny_holding (wpAny_bind (wpAny_cRoomFor (Nat.lt_of_succ_lt hu) ?_))
  rw [cmpInfo_NotEq]
  dsimp only
  refine wpAny_bind (I.type.here (wpAny_bind (hb.here ?_)))
  split
  · rename_i q
    have e : PySem.W.subIn K tb (.ref C) = some false := by
      rcases Bool.or_eq_true_iff.mp hn with e | e
      · rw [beq_iff_eq.mp e] at q; simp at q
      · exact beq_iff_eq.mp e
    refine wpAny_bind ((PySem.W.looks_subIn X e).here ?_)
    simp only [Bool.false_eq_true, if_false]
    refine wpAny_bind (wpAny_mono one (fun r s' z => ?_) fun _ _ e => e)
    obtain ⟨v, rfl, hq⟩ := z
    exact wpAny_pure hq
  · refine wpAny_bind (wpAny_pure ?_)
    simp only [Bool.false_eq_true, if_false]
    refine wpAny_bind (wpAny_mono one (fun r s' z => ?_) fun _ _ e => e)
    obtain ⟨v, rfl, hq⟩ := z
    exact wpAny_pure hq
end
section
variable {X : Cx} {CX : CXT} {n : Nat} {C f : Addr} {fd : FuncData} {ps : List Str} {sp : Sp} {E : XK}
theorem opNeOwnX {K : PySem.W.Frag} (W : EqOwn X.K C f) (F : FnOk X.prog X.w X.K X.mg X.base CX n f fd ps sp) (hr : Room (n + 1) X.A) (hb : Binds X.K fd ps []) (hx : Passes CX X E) (hK : X.K = K := by rfl) : OpR X (compareOp .NotEq) (rOwnX K C sp E true) := by
  subst hK
  intro pins s σ H x y v u Q I rx ry h
  obtain ⟨a, dx, fs, t, rfl, ha, ty, kt, q⟩ := h
  cases rx
  obtain ⟨mA, J, _⟩ := ins_get I.hok ha
  obtain ⟨od, J, _⟩ := J.look
  obtain ⟨P, Z, p, _⟩ := kit_of I ry ty
  have hu := hr.un
  show wpAny (model X.prog X.w) X.A (richCompare .NotEq (.ref a) u) (EP X pins σ Q) X.xe s
  refine rich_neX I.kIn J (Z.ty _ _ I.kIn p) (notFirst_of kt) W (by omega) ?_
  refine wpAny_mono (own_call2 F hb hx I hr.in1 rfl ry q) (fun w s' z => ?_) fun _ _ z => z
  obtain ⟨v, H', I', rv, k, rfl, qk⟩ := z
  cases rv
  exact ⟨k, rfl, .bl (!k), H', I', rfl, qk⟩
end
/-! ### bool(obj) by its len -/
section
variable {prog : Program} {w : World} {A : Around} {E : Value → Shared → Prop} {s : Shared} {K : PySem.W.Frag} {x C L f : Addr} {h₀ : Heap} {m : Str → Option Value} {ox : Obj} {od : Option Obj}
theorem truthy_KL {Q : Bool → Shared → Prop} (F : Fr h₀ L s.heap m) (X₀ : K.In h₀) (I : PySem.W.InstAt s.heap x ox C od) (hs : PySem.W.findIn K (.ref C) "__bool__" = some none) (hl : PySem.W.findIn K (.ref C) "__len__" = some (some (.ref f))) (hf : PySem.W.isFn K (.ref f) = true)
    (h : wpAny (model prog w) A.in1 (call (.ref f) [.ref x]) (PySem.W.LenBack fun v s' => ∃ i t, v = .int i t ∧ Q (i != 0) s') E s) : wpAny (model prog w) A (truthy (.ref x)) Q E s := by
  have X := X₀.keeps F.keep
  unfold truthy
  refine wpAny_bind (m := callSpecial? (.ref x) (Str.ofString "__bool__")) (wpAny_bind (wpAny_bind (I.type.here ((PySem.W.looks_findIn X hs).here (wpAny_pure ?_)))))
  refine wpAny_bind (wpAny_bind (I.type.here ((PySem.W.looks_findIn X hl).here ?_)))
  show wpAny (model prog w) A (if (some (Value.ref f)).isNone = true then _ else _) _ _ _
  rw [if_neg (by simp)]
  refine wpAny_bind (wpAny_runValue (codeAny_builtin entry_len ?_))
  unfold Builtin.«len»
  refine wpAny_bind (m := oneArg "len" _) (wpAny_pure ?_)
  refine wpAny_bind (m := callSpecial? (.ref x) (Str.ofString "__len__")) (PySem.W.special_fn X I hl (beq_iff_eq.mp hf) (wpAny_mono h (fun r s' hr => ?_) fun _ _ y => y))
  cases r <;> first | exact hr.elim | skip
  rename_i n u
  obtain ⟨⟨h0, h1⟩, i, t, e, hq⟩ := hr
  cases e
  refine wpAny_bind (wpAny_holding (wpAny_pure ?_))
  refine wpAny_bind (wpAny_letGo ?_)
  show wpAny _ _ (if n < 0 then _ else _) _ _ _
  rw [if_neg (by omega)]
  show wpAny _ _ (if n ≥ 2 ^ 63 then _ else _) _ _ _
  rw [if_neg (by omega)]
  exact wpAny_bind (wpAny_mkInt (wpAny_pure (wpAny_pure hq)))
theorem bool_obj : MeetsIn prog w (Builtin.«bool.__new__» ⟨[.type "bool", .ref x], []⟩) (fun A R s => wpAny (model prog w) A.in1 (truthy (.ref x)) (fun b s' => R (.ok (.ret (.bool b))) s') (fun e s' => R (.error e) s') s) :=
  .of_wp fun A R s hs => by
    have f1 := F.conv_sub_bool
    have q1 : ∀ {Q : Bool → Shared → Prop}, (∀ b s', R (.ok (.ret (.bool b))) s' → Q b s') → wpAny (model prog w) A.in1 (truthy (.ref x)) Q (fun e s' => R (.error e) s') s := fun h => wpAny_mono hs h fun _ _ z => z
    unfold Builtin.«bool.__new__»
    repeat (any_goals (first | assumption | (refine wpAny_bind (q1 fun b s' z => ?_)) | wp_step))
    all_goals first | exact ⟨_, rfl, ‹_›⟩ | skip
theorem call_bool_obj {Q : Value → Shared → Prop} (h : wpAny (model prog w) A.in1.in1 (truthy (.ref x)) (fun b s' => Q (.bool b) s') E s) : wpAny (model prog w) A (call (.type "bool") [.ref x]) Q E s :=
  callType_newIn F.called_bool F.newNe_bool (F.typeCall_bool_1 _) (F.newCall_bool_1 _) (fun obj => F.args_object_init_2 obj _) F.entry_bool_new bool_obj (wpAny_mono h (fun b s' z => ⟨rfl, z⟩) fun _ _ z => z)
end
section
variable {X : Cx} {CX : CXT} {n : Nat} {C f : Addr} {fd : FuncData} {ps : List Str} {sp : Sp} {E : XK}
def rBoolO (C : Addr) (sp : Sp) (E : XK) : List V → Hp → VK → Prop := fun xs H Q => ∃ a dx fs, xs = [.ref a] ∧ H a = some (.ins C dx fs) ∧ sp [.ref a] H (fun z H' => ∃ r : Nat, z = .int (r : Int) ∧ r ≤ 1000000 ∧ Q (.bl (decide (0 < r))) H') E
theorem ne0 (r : Nat) : ((r : Int) != 0) = decide (0 < r) := by
  cases r with
  | zero => rfl
  | succ r =>
    rw [decide_eq_true (Nat.succ_pos r)]
    exact bne_iff_ne.mpr (by omega)
theorem callBoolO (nb : NoAttr X.K C "__bool__") (W : OwnM X.K C "__len__" f) (F : FnOk X.prog X.w X.K X.mg X.base CX n f fd ps sp) (hr : Room (n + 3) X.A) (hb : Binds X.K fd ps []) (hx : Passes CX X E) : CallR X (.type "bool") (rBoolO C sp E) := by
  intro pins s σ H xs us Q I r h
  obtain ⟨a, dx, fs, rfl, ha, q⟩ := h
  obtain ⟨u, rfl, ru⟩ := vals1 r
  cases ru
  obtain ⟨mA, J, _⟩ := ins_get I.hok ha
  obtain ⟨od, J, _⟩ := J.look
  obtain ⟨m, hF⟩ := I.fr
  refine call_bool_obj (truthy_KL hF I.ok.mod.kin J nb W.at_ W.fn (wpAny_mono (own_call1 F hb hx I hr.in1.in1.in1 rfl q) (fun w s' z => ?_) fun _ _ z => z))
  obtain ⟨v, H', I', rv, r, rfl, hl, qk⟩ := z
  obtain ⟨t, rfl⟩ := rv
  refine ⟨⟨by omega, by omega⟩, _, _, rfl, ?_⟩
  rw [ne0]
  exact ⟨.bl _, H', I'.tok _, rfl, qk⟩
/-! ### making by a local that holds the class -/
def tMakeL (i : Nat) (C : Addr) (sp : Sp) (dvs : List V) (E : XK) (t : TA) : TE := fun σ H Q => ∃ y, σ[i]? = some (some y) ∧ y = .ref C ∧ t σ H fun vs H1 => rMk C sp E (vs ++ dvs) H1 Q
theorem c_makeL {i : Nat} {dvs : List V} {t : TA} {σ : L2.St} {H : Hp} {Q : VK} (e : σ[i]? = some (some (.ref C))) (h : t σ H fun vs H1 => rMk C sp E (vs ++ dvs) H1 Q) : tMakeL i C sp dvs E t σ H Q := ⟨_, e, rfl, h⟩
theorem pe_makeL {i : Nat} {x : Str} {e : Expr} {es : List Expr} {t : TA} {p pos : Pos} {ds : List Value} {dvs : List V} (M : Mk X.K C f) (F : FnOk X.prog X.w X.K X.mg X.base CX n f fd ps sp) (hr : Room (n + 1) X.A) (hN : X.N[i]? = some x) (hv : Vis X.env.scope x) (hb : Binds X.K fd ps ds) (hd : Vals dvs ds) (hx : Passes CX X E)
    (ha : PA X (e :: es) t) (hdb : (x == ("__debug__" : Str)) = false := by decide) (hcd : (x == ("__classdict__" : Str)) = false := by decide) (he : starEach (e :: es) X.env = (false, eval e X.env) :: starEach es X.env := by rfl) (hpl : (backTo pos (starEach es X.env)).any (·.1) = false := by rfl) :
    PE X (.Call (.Name x p) (e :: es) [] pos) (tMakeL i C sp dvs E t) := by
  refine ⟨fun pins s σ H Q I h => ?_⟩
  obtain ⟨y, hs, ey, ht⟩ := h
  subst ey
  refine wpAny_Call_Name_kw (thn ((pe_var (pos := p) hN hv hdb hcd).run pins s σ H (fun v H1 => v = .ref C ∧ H1 = H) I ⟨.ref C, hs, rfl, rfl⟩) fun u s1 ⟨v, H1, I1, r1, q1⟩ => ?_)
  obtain ⟨rfl, rfl⟩ := q1
  cases r1
  exact PySem.W.callWith_K (h₀ := X.base) I1.ok.mod.kin M.kp (thn (ha.run pos pins s1 σ _ _ I1 ht) fun us s2 ⟨vs, H2, I2, r, q⟩ => ⟨I2.kIn, run_make M F hr hb hd hx I2 r q⟩) he hpl
end
/-! ### what stays of a value's type -/
theorem tyx_mono {K : PySem.W.Frag} {H H' : Hp} {x : V} {t : Value} (s : Same H H') (h : TyX K H x t) : TyX K H' x t := by
  cases h with
  | base b =>
    cases b with
    | non => exact .base .non
    | bl y => exact .base (.bl y)
    | int y => exact .base (.int y)
    | str y => exact .base (.str y)
    | flt y => exact .base (.flt y)
    | lst e => exact .base (.lst (s _ _ e))
    | frz e => exact .base (.frz (s _ _ e))
    | tup e => exact .base (.tup (s _ _ e))
    | dK e => exact .base (.dK (s _ _ e))
    | dT e => exact .base (.dT (s _ _ e))
    | ins e a b c d f => exact .base (.ins (s _ _ e) a b c d f)
  | byt y => exact .byt y
  | set e => exact .set (s _ _ e)
  | kList a b => exact .kList a b
  | kTuple a b => exact .kTuple a b
  | kDict a b => exact .kDict a b
  | fTuple e => exact .fTuple (s _ _ e)
  | fDict e => exact .fDict (s _ _ e)
/-- isinstance(x, T): x of a kind that is none of T's -/
theorem c_isiN {K : PySem.W.Frag} {H : Hp} {Q : VK} {x : V} {t : Value} {b : String} (ty : TyX K H x t) (kt : PySem.W.kitOne K t (.type b) = some false) (h : Q (.bl false) H) : rIsi K [x, .ty b] H Q := ⟨x, .ty b, t, .type b, false, rfl, .ty b, ty, kt, h⟩
theorem c_isiNC {K : PySem.W.Frag} {H : Hp} {Q : VK} {x : V} {t : Value} {C : Addr} (ty : TyX K H x t) (kt : PySem.W.kitOne K t (.ref C) = some false) (h : Q (.bl false) H) : rIsi K [x, .ref C] H Q := ⟨x, .ref C, t, .ref C, false, rfl, .own C, ty, kt, h⟩
/-- no two kinds: a name is no text that is none -/
theorem inV_names {x : Str} {ns : List Str} (h : ∀ z ∈ ns, IsName z) (hx : ¬ IsName x) : inV (.str x) (ns.map V.str) = false := by
  cases e : inV (.str x) (ns.map V.str) with
  | false => rfl
  | true =>
    unfold inV at e
    simp [eqV] at e
    exact absurd (h x e) hx
end Und
/-! errors as values: made by position and by name, asked for their class, their field read -/
namespace Und
open PySem PySem.Spec PyProof.Rows L2 PySem.HandSPX Builtin Builtin.ObjectAttr
/-! ### a call of such a class with a keyword -/
section
variable {M : Model} {prog : Program} {w : World} {A : Around} {E : Value → Shared → Prop} {R : Result → Shared → Prop} {h : Heap} {g : Array GenState} {d : Drawn} {t : Nat} {os : OsState}
variable {nm q : Str} {C N : Addr} {bs bm bmB : List Value} {hdct : Bool} {sn : List Str} {sub : List Value} {ab : Bool} {col : Option Bool} {dd : Option Addr} {k0 k1 k2 k3 k5 : Option Value} {B newId initId : String}
theorem kw_check (F : ExcBaseFacts B newId initId bmB) (hT : ∀ X : String, bm.contains (.type X) = bmB.contains (.type X)) {kw : List (Str × Value)} {Q : Unit → Shared → Prop}
    (hC : h.get? C = some (excClassObj nm q C N bs bm hdct sn sub ab col dd k0 k1 k2 k3 k5 newId)) (hq : Q () ⟨h, g, d, t, os⟩) : wpAny M A (checkBuiltinCall newId ⟨[.ref C], kw⟩) Q E ⟨h, g, d, t, os⟩ := by
  have hcont : (Value.ref C :: bm).contains (.type B) = true := by rw [List.contains_cons, hT, F.hasB, Bool.or_true]
  have hstar := F.noStar
  simp only [checkBuiltinCall, F.newKind, F.newSplit, F.newRow]
  repeat (first | refine wpAny_loadPart_at hC ?_ | (refine wpAny_isSubtype_exc hC ?_; rw [hcont]) | refine wpAny_staticBase_exc hC ?_ | refine wpAny_madeBy_exc hC ?_ | simp only [bne_self_eq_false, Bool.false_eq_true, if_false] | wp_step)
  exact hq
theorem kw_new (F : ExcBaseFacts B newId initId bmB) (hT : ∀ X : String, bm.contains (.type X) = bmB.contains (.type X)) {kw : List (Str × Value)}
    (hC : h.get? C = some (excClassObj nm q C N bs bm hdct sn sub ab col dd k0 k1 k2 k3 k5 newId))
    (hq : R (.ok (.ret (.ref (h.objs.size + 1)))) ⟨(h.push { cls := .type "tuple", data := .seq ([] : List Value).toArray }).push
      { cls := .ref C, data := .fields #[.ref h.objs.size, .none, .none, .none, .bool false, .none] }, g, d, t, os⟩) :
    codeAny (model prog w) A (.builtin newId ⟨[.ref C], kw⟩) R ⟨h, g, d, t, os⟩ := by
  have hends := F.ends
  have hcB : (Value.ref C :: bm).contains (.type B) = true := by rw [List.contains_cons, hT, F.hasB, Bool.or_true]
  have hcA : (Value.ref C :: bm).contains (.type "AttributeError") = false := by rw [List.contains_cons, hT, F.noAttr]; rfl
  have hcN : (Value.ref C :: bm).contains (.type "NameError") = false := by rw [List.contains_cons, hT, F.noName]; rfl
  refine codeAny_builtinAt F.entry ?_
  unfold Builtin.«BaseException.__new__»
  refine PySem.wpAt_bind ?_
  show PySem.wpAt _ _ _ (stack >>= _) _ _ _
  refine PySem.wpAt_bind (PySem.wpAt_stack fun p below => PySem.wpAt_of_wpAny ?_)
  wp_walk
  refine PySem.wpAt_of_wpAny ?_
  rw [F.owner]
  repeat (first | with_reducible refine wpAny_madeHere_exc F.canon hC ?_ | with_reducible refine wpAny_loadPart_at hC ?_ | (with_reducible refine wpAny_isSubtype_exc hC ?_; first | rw [hcB] | rw [hcA] | rw [hcN]) | wp_step)
  show R _ _
  rw [Heap.size_push]
  exact hq
theorem kw_type (F : ExcBaseFacts B newId initId bmB) (hT : ∀ X : String, bm.contains (.type X) = bmB.contains (.type X)) {kw : List (Str × Value)} {fI : Addr} {Q : Fin → Shared → Prop}
    (hC : h.get? C = some (excClassObj nm q C N bs bm hdct sn sub ab col dd k0 k1 k2 k3 k5 newId))
    (hi : W.Looks (model prog w) h (typeLookup (.ref C) "__init__") (some (.ref fI))) (hb : ∀ self, W.Looks (model prog w) h (bindSpecial (.ref fI) self) (.ref fI, [self]))
    (hq : codeAny (model prog w) A (.call (.ref fI) ⟨[.ref (h.objs.size + 1)], kw⟩)
      (fun r s' => match r with | .ok (.ret v) => v = .none ∧ Q (.done (.ret (.ref (h.objs.size + 1)))) s' | .ok _ => False | .error e => E e s')
      ⟨(h.push (W.kdv_tup [])).push (excO C h.objs.size), g, d, t, os⟩) :
    wpAny (model prog w) A (Builtin.«type.__call__» ⟨[.ref C], kw⟩) Q E ⟨h, g, d, t, os⟩ := by
  repeat (first | with_reducible refine wpAny_loadPart_at hC ?_ | with_reducible refine wpAny_madeBy_exc hC ?_ | wp_step)
  refine codeAny_call_builtin_code (Code.quiet_builtin _ F.quiet) (kw_check F hT hC ?_)
  refine kw_new F hT hC ?_
  show wpAny _ _ _ _ _ _
  have k : ∀ b o, h.get? b = some o → ((h.push (W.kdv_tup [])).push (excO C h.objs.size)).get? b = some o := fun b o e => Heap.get?_push_of_some _ (Heap.get?_push_of_some _ e)
  have hC₁ := k _ _ hC
  have hget : ((h.push (W.kdv_tup [])).push (excO C h.objs.size)).get? (h.objs.size + 1) = some (excO C h.objs.size) := by heap_get
  have hcC : (Value.ref C :: bm).contains (.ref C) = true := by simp
  have i1 := hi.keeps k
  have b1 := (hb (.ref (h.objs.size + 1))).keeps k
  unfold isInstance
  repeat (first | with_reducible refine wpAny_loadPart_at hget ?_ | (with_reducible refine wpAny_isSubtype_exc hC₁ ?_; rw [hcC]) | wp_step)
  show wpAny _ _ (typeLookup (.ref C) _) _ _ _
  refine i1.at ?_
  refine wpAny_holding (wpAny_bind (b1.at ?_))
  refine wpAny_bind (wpAny_call (codeAny_mono hq fun r s' z => ?_))
  rcases r with e | (v | _ | _ | _) <;> first | exact z | exact z.elim | skip
  obtain ⟨rfl, z⟩ := z
  first
    | exact wpAny_pure (wpAny_pure z)
    | (wp_walk; exact z)
theorem kw_call (F : ExcBaseFacts B newId initId bmB) (hT : ∀ X : String, bm.contains (.type X) = bmB.contains (.type X)) {kw : List (Str × Value)} {fI : Addr}
    (hC : h.get? C = some (excClassObj nm q C N bs bm hdct sn sub ab col dd k0 k1 k2 k3 k5 newId))
    (hi : W.Looks (model prog w) h (typeLookup (.ref C) "__init__") (some (.ref fI))) (hb : ∀ self, W.Looks (model prog w) h (bindSpecial (.ref fI) self) (.ref fI, [self]))
    (hq : codeAny (model prog w) (A.under (.builtin "type.__call__" ⟨[.ref C], kw⟩)) (.call (.ref fI) ⟨[.ref (h.objs.size + 1)], kw⟩) (W.InitBack (h.objs.size + 1) R)
      ⟨(h.push (W.kdv_tup [])).push (excO C h.objs.size), g, d, t, os⟩) :
    codeAny (model prog w) A (.call (.ref C) ⟨[], kw⟩) R ⟨h, g, d, t, os⟩ := by
  have f1 := tc_lookup
  have f2 := tc_bind (.ref C)
  have hTy : (⟨h, g, d, t, os⟩ : Shared).TypeIs (.ref C) "type" := ⟨_, hC, rfl⟩
  refine codeAny_of_tree ?_
  show wpAny _ _ (callAny (.ref C) _) _ _ _
  repeat (any_goals (first | assumption | with_reducible refine wpAny_loadPart_at hC ?_ | wp_step))
  refine ⟨rfl, ?_⟩
  refine codeAny_call_builtin_at (Code.quiet_builtin _ (by decide +kernel)) entry_typeCall (wpAny_check_type_call_sub hC (kw_type F hT hC hi hb ?_))
  refine codeAny_mono hq fun r s' z => ?_
  rcases r with e | (v | _ | _ | _) <;> exact z
end
/-! ### the field is set -/
section
variable {prog : Program} {w : World} {A : Around} {R : Result → Shared → Prop} {hp : Heap} {g : Array GenState} {d : Drawn} {t : Nat} {os : OsState}
theorem osa_gen {K : W.Frag} {name : Str} {tk : Tok} {v : Value} {x C : Addr} {fv : Array Value} {cd : ClassData}
    (X : K.In hp) (hx : hp.get? x = some { cls := .ref C, data := .fields fv }) (hcd : W.clsIn K C = some cd) (ne : cd.mro.isEmpty = false) (hob : cd.mro.contains (.type "object") = true) (pass : refuseLoop (.ref x) "__setattr__" cd.mro = pure ()) (hh : cd.hasDict = true) (ha : W.findIn K (.ref C) name = some none)
    (hq : ∀ h' tk' dx, (∀ b o, b ≠ x → hp.get? b = some o → h'.get? b = some o) → hp.objs.size ≤ dx → dx ≠ x → h'.get? x = some { cls := .ref C, dict := some dx, data := .fields fv } →
      h'.Ns1 dx (fun y => if y = name then some v else none) → R (.ok (.ret .none)) ⟨h', g, d, tk', os⟩) :
    codeAny (model prog w) A (.call (.builtin "object.__setattr__") ⟨[.ref x, .str name tk, v], []⟩) R ⟨hp, g, d, t, os⟩ := by
  have I : W.InstAt hp x { cls := .ref C, data := .fields fv } C none := ⟨hx, rfl, rfl, trivial⟩
  have SF := F.store_object
  have hxs : x ≠ hp.objs.size := Nat.ne_of_lt (Heap.lt_size hx)
  have sub : W.Looks (model prog w) hp (isInstance (.ref x) (.type "object")) true := I.type.andThen (W.looks_mroIn X (by unfold W.mroIn; rw [hcd, Option.bind_some, if_neg (by rw [ne]; decide), hob]))
  refine codeAny_call_builtin SF.slot.plain SF.entry (@W.check_slot (model prog w) _ _ ⟨hp, g, d, t, os⟩ "object.__setattr__" "object" "__setattr__" (.ref x) [.str name tk, v] [] _ SF.kind SF.split sub (SF.args (.ref x) (.str name tk) v) ?_)
  have hmr : W.Looks (model prog w) hp (mroOf (.ref C)) cd.mro := (W.looks_clsIn X hcd).andThen .now
  have L3 : W.Looks (model prog w) hp (storeTaker? none) none := .now
  have hcls : W.Looks (model prog w) hp (classData C) cd := W.looks_clsIn X hcd
  rw [W.osa_eq, refuse_eq]
  refine wpAny_bind (wpAny_bind (I.type.at (wpAny_bind (hmr.at ?_))))
  rw [pass]
  refine wpAny_pure (wpAny_bind (I.type.at (wpAny_bind ((W.looks_findIn X ha).at (wpAny_bind (L3.at ?_))))))
  show wpAny _ _ (storeInOwnDict (.ref x) (.ref C) (.str name tk) name v false) _ _ _
  obtain ⟨nm, bs, mro, ns, qn, hd, sn, sb, ab, col, del⟩ := cd
  dsimp only at hh
  subst hh
  unfold storeInOwnDict ownDictForStores
  repeat (first | with_reducible refine store_in_new ?_ ?_ | with_reducible refine wpAny_loadPart_at hx ?_ | with_reducible refine hcls.at ?_ | wp_step)
  · exact ⟨_, #[], _, (Heap.get?_update_ne _ _ _ _ hxs.symm).trans (Heap.get?_push_at rfl rfl), rfl, fun e he => absurd he (by simp), fun _ => rfl⟩
  · intro h' tk' hn' hs
    have hx₁ : (hp.push { cls := .type "dict", data := .dict #[] }).get? x = some { cls := .ref C, data := .fields fv } := Heap.get?_push_of_some _ hx
    refine hq h' tk' hp.objs.size (fun b o hb ho => ?_) (Nat.le_refl _) hxs.symm ?_ hn'
    · exact (hs.2 b (Nat.ne_of_lt (Heap.lt_size ho))).trans ((Heap.get?_update_ne _ _ _ _ hb).trans (Heap.get?_push_of_some _ ho))
    · exact (hs.2 x hxs).trans (Heap.get?_update_self _ hx₁ rfl)
end
/-! ### what the written part says of an error's class -/
/-- a built-in family of errors -/
structure Fam (B newId initId : String) (bmB : List Value) : Prop where
  F : ExcBaseFacts B newId initId bmB
  pass : ∀ self, refuseLoop self "__setattr__" bmB = pure ()
  obj : bmB.contains (.type "object") = true
theorem famV : Fam "ValueError" "ValueError.__new__" "ValueError.__init__" [.type "ValueError", .type "Exception", .type "BaseException", .type "object"] := ⟨F.excBase_ValueError, fun self => F.store_ValueError.passes self, by decide +kernel⟩
theorem famA : Fam "ArithmeticError" "ArithmeticError.__new__" "ArithmeticError.__init__" [.type "ArithmeticError", .type "Exception", .type "BaseException", .type "object"] := ⟨F.excBase_ArithmeticError, fun self => by kernel_rfl, by decide +kernel⟩
theorem famL : Fam "LookupError" "LookupError.__new__" "LookupError.__init__" [.type "LookupError", .type "Exception", .type "BaseException", .type "object"] := ⟨F.excBase_LookupError, fun self => by kernel_rfl, by decide +kernel⟩
structure ErrC (K : PySem.W.Frag) (C : Addr) (refs : List Addr) (newId : String) (bmB : List Value) : Prop where
  cls : ∃ nm q N bs sn sub ab col dd k0 k1 k2 k3 k5, K.lookup C = some (excClassObj nm q C N bs (refs.map Value.ref ++ bmB) true sn sub ab col dd k0 k1 k2 k3 k5 newId)
  sa : PySem.W.findIn K (.ref C) "__setattr__" = some (some (.builtin "object.__setattr__"))
  ga : PySem.W.findIn K (.ref C) "__getattribute__" = some (some (.builtin "BaseException.__getattribute__"))
  gg : PySem.W.findIn K (.ref C) "__getattr__" = some none
  ca : PySem.W.findIn K (.ref C) "__class__" = some (some (.builtin "object.__class__"))
  tyC : PySem.W.typeIn K (.ref C) = some (.type "type")
  kC : PySem.W.keepIn K (.ref C) = true
section
variable {K : PySem.W.Frag} {C : Addr} {refs : List Addr} {B newId initId : String} {bmB : List Value}
theorem ErrC.cd (T : ErrC K C refs newId bmB) : ∃ cd, PySem.W.clsIn K C = some cd ∧ cd.mro = .ref C :: (refs.map Value.ref ++ bmB) ∧ cd.hasDict = true := by
  obtain ⟨nm, q, N, bs, sn, sub, ab, col, dd, k0, k1, k2, k3, k5, hC⟩ := T.cls
  exact ⟨{ name := nm, bases := bs, mro := .ref C :: (refs.map Value.ref ++ bmB), ns := N, qualname := q, hasDict := true, slotNames := sn, subclasses := sub, abstract := ab, collection := col, hasDel := false }, by unfold PySem.W.clsIn; rw [hC] <;> rfl, rfl, rfl⟩
theorem ErrC.mro (T : ErrC K C refs newId bmB) (base : Value) : PySem.W.mroIn K C base = some ((Value.ref C :: (refs.map Value.ref ++ bmB)).contains base) := by
  obtain ⟨cd, hcd, hm, _⟩ := T.cd
  unfold PySem.W.mroIn
  rw [hcd, Option.bind_some, hm]
  exact if_neg Bool.false_ne_true
theorem refs_has (T : String) : ∀ l : List Addr, (l.map Value.ref ++ bmB).contains (.type T) = bmB.contains (.type T)
  | [] => rfl
  | a :: r => by
    rw [List.map_cons, List.cons_append, List.contains_cons, refs_has T r]
    rfl
theorem refs_pass (m : Fam B newId initId bmB) (self : Value) : ∀ l : List Addr, refuseLoop self "__setattr__" (l.map Value.ref ++ bmB) = pure ()
  | [] => m.pass self
  | a :: r => by
    rw [List.map_cons, List.cons_append, PySem.refuseLoop_ref]
    exact refs_pass m self r
theorem ErrC.exC (T : ErrC K C refs newId bmB) (m : Fam B newId initId bmB) : PySem.W.subIn K (.ref C) (.type "BaseException") = some true := by
  show PySem.W.mroIn K C _ = _
  rw [T.mro, List.contains_cons, refs_has, m.F.hasBase, Bool.or_true]
theorem ErrC.hdC (T : ErrC K C refs newId bmB) : PySem.W.hasDictIn K C = true := by
  obtain ⟨cd, hcd, _, hd⟩ := T.cd
  unfold PySem.W.hasDictIn
  rw [hcd]
  exact hd
end
section
variable {X : Cx} {pins : List (Addr × Obj)} {σ : L2.St} {H : Hp} {s : Shared} {a C dx : Addr} {refs : List Addr} {B newId initId : String} {bmB : List Value} {f : Str} {y : V} {u : Value} {Q : Unit → Shared → Prop} {E : Value → Shared → Prop} {A : Around}
/-- self.f = y -/
theorem err_new (T : ErrC X.K C refs newId bmB) (m : Fam B newId initId bmB) (I : Inv X pins σ H s) (e : H a = some (exo a C none)) (hno : PySem.W.findIn X.K (.ref C) f = some none) (ry : RelV y u)
    (h : ∀ dx s', H dx = none → dx ≠ a → Inv X pins σ (upd (upd H dx (exd dx [(f, y)])) a (exo a C (some dx))) s' → Q () s') : wpAny (model X.prog X.w) A (setAttr (.ref a) f u) Q E s := by
  obtain ⟨cd, hcl, hmro, hdic⟩ := T.cd
  obtain ⟨t1, ho⟩ := exo_at I.hok e
  obtain ⟨hp, g, d, t, os⟩ := s
  refine PySem.W.set_plain I.kIn (ox := { cls := .ref C, dict := none, data := .fields #[.ref t1, .none, .none, .none, .bool false, .none] }) (od := none) ⟨ho, rfl, rfl, trivial⟩ T.sa ?_
  refine osa_gen I.kIn ho hcl (by rw [hmro]; rfl) (by rw [hmro, List.contains_cons, refs_has, m.obj, Bool.or_true]) (by rw [hmro, PySem.refuseLoop_ref]; exact refs_pass m _ refs) hdic hno (fun h' tk' dx k dn dne hx hn => ?_)
  have hnd : H dx = none := I.hok.fresh dn
  have nd : ∀ {b : Addr} {o : Obj}, hp.get? b = some o → b ≠ dx := fun {b o} q => Nat.ne_of_lt (Nat.lt_of_lt_of_le (Heap.lt_size q) dn)
  have na : ∀ {b : Addr}, H b = none → b ≠ a := fun {b} n z => by
    rw [z, e] at n
    cases n
  have Un1 : Un X.fs [] H (upd (upd H dx (exd dx [(f, y)])) a (exo a C (some dx))) hp h' := {
    keep := fun b o q n _ _ => k b o (na n) q
    slot := fun b o q n _ _ => ⟨o.slots, k b o (na n) q⟩
    free := fun b o q n _ => by rw [upd_ne (na n), upd_ne (nd q)]; exact n
    there := fun b o q _ => by
      by_cases hb : b = a
      · exact ⟨_, by rw [hb]; exact hx⟩
      · exact ⟨o, k b o hb q⟩
    tups := fun b xs q => by rw [upd_ne (at_ne e q exo_tup), upd_ne (ne_of_none q hnd)]; exact q
    frzs := fun b o v q => by rw [upd_ne (at_ne e q exo_frz), upd_ne (ne_of_none q hnd)]; exact q
    tbls := fun b ps q => ⟨#[], by rw [upd_ne (at_ne e q exo_tbl), upd_ne (ne_of_none q hnd), q]; simp⟩ }
  refine h dx _ hnd dne (I.un (t' := tk') Un1 fun b o q => ?_)
  by_cases hb : b = a
  · subst hb
    rw [upd_same] at q
    cases q
    exact exo_ok hx
  · rw [upd_ne hb] at q
    by_cases hd : b = dx
    · subst hd
      rw [upd_same] at q
      cases q
      exact exd_ok hn (relO_put (fs := []) ry fun g => True.intro)
    · rw [upd_ne hd] at q
      exact (I.hok b o q).stay (fun c v hc z => k c v (by
          rcases hc with hc | hc
          · rw [hc]
            exact hb
          · exact at_ne e hc exo_own) z)
        (fun c hc => by rw [upd_ne (at_ne e hc exo_own), upd_ne (ne_of_none hc hnd)]; exact hc) (fun c xs hc => by rw [upd_ne (at_ne e hc exo_tup), upd_ne (ne_of_none hc hnd)]; exact hc)
end
end Und
/-! errors as values: the rules -/
namespace Und
open PySem PySem.Spec PyProof.Rows L2 PySem.HandSPX
/-! ### isinstance of an error that has a dict of its own, or none -/
section
open PySem.W
variable {prog : Program} {w : World} {A : Around} {E : Value → Shared → Prop} {s : Shared} {K : Frag} {x D : Addr} {ox : Obj} {od : Option Obj}
theorem class_at {Q : Option Value → Shared → Prop} (hga : findIn K (.ref D) "__getattribute__" = some (some (.builtin "BaseException.__getattribute__"))) (hgt : findIn K (.ref D) "__getattr__" = some none) (hsub : subIn K (.ref D) (.type "BaseException") = some true)
    (hdct : hasDictIn K D = true) (ha : findIn K (.ref D) "__class__" = some (some (.builtin "object.__class__")))
    (hn : specialIn K (.builtin "object.__class__") "__get__" = some (some (.builtin "getset_descriptor.__get__"))) (htk : takesIn K (.builtin "object.__class__") = some true) (hm : mroIn K D (.type "object") = some true)
    (X : K.In s.heap) (I : InstAt s.heap x ox D od) (h : Q (some (.ref D)) { s with toks := s.toks + 1 }) : wpAny (model prog w) A (getAttr? (.ref x) "__class__") Q E s := by
  have hs0 : (clsIn K D).isSome = true := by obtain ⟨cd, hc, _⟩ := any_some hdct; rw [hc]; rfl
  have hf : findObj K D od "__class__" = some (.bind (.builtin "getset_descriptor.__get__") (.builtin "object.__class__")) := by
    cases od with
    | none => exact findObj_dataN hs0 ha hn htk
    | some od => exact findObj_data hs0 ha hn htk
  obtain ⟨hp, g, d, t, os⟩ := s
  have L0 := I.type (M := model prog w)
  have L1 := looks_findIn (M := model prog w) X hga
  have L2 := looks_findIn (M := model prog w) X hgt
  have L3 := looks_find (M := model prog w) X I hf
  have sub : Looks (model prog w) hp (isInstance (.ref x) (.type "BaseException")) true := L0.andThen (looks_subIn X hsub)
  have hx0 : (false && onTheHeap (Value.builtin "BaseException.__getattribute__")) = false := rfl
  have hx2 : (Value.builtin "BaseException.__getattribute__" == Value.builtin "object.__getattribute__") = false := by decide +kernel
  have hx1 : (onTheHeap (Value.ref D) && Value.builtin "BaseException.__getattribute__" == Value.builtin "object.__getattribute__") = false := by rw [hx2]; rfl
  unfold getAttr? getAttrBy? getAttrBy
  refine wpAny_bind (wpAny_mkText (wpAny_bind (wpAny_attempt (wpAny_holding (wpAny_bind (L0.at (wpAny_bind (L1.at ?_))))))))
  show wpAny _ _ (if (onTheHeap (Value.ref D) && Value.builtin "BaseException.__getattribute__" == Value.builtin "object.__getattribute__") = true then _ else _) _ _ _
  rw [hx1, if_neg Bool.false_ne_true]
  unfold getAttrByItsOwn hookBefore
  refine wpAny_bind ?_
  rw [if_pos (show onTheHeap (Value.ref D) = true from rfl)]
  refine L2.at ?_
  refine wpAny_bind (wpAny_attempt (wpAny_holding ?_))
  unfold callGetattribute
  rw [hx0, if_neg Bool.false_ne_true]
  unfold boundAndCalled
  rw [PySem.F.excAttr_ValueError.ga.bind (.ref x)]
  refine wpAny_bind (wpAny_pure ?_)
  show wpAny _ _ (call (.builtin "BaseException.__getattribute__") [.ref x, .str "__class__" t]) _ _ _
  refine wpAny_call (codeAny_call_builtin PySem.F.excAttr_ValueError.ga.plain PySem.F.entry_bexc_ga ?_)
  refine @check_slot (model prog w) _ _ ⟨hp, g, d, t + 1, os⟩ "BaseException.__getattribute__" "BaseException" "__getattribute__" (.ref x) [.str "__class__" t] [] _ (by decide +kernel) (by decide +kernel) sub (PySem.F.args_bexc_ga (.ref x) (.str "__class__" t)) ?_
  unfold Builtin.«object.__getattribute__»
  refine wpAny_bind (wpAny_of_eq (a := ((Value.ref x : Value), [Value.str "__class__" t])) (by first | rfl | (simp only [slotArgs]; rfl)) ?_)
  refine wpAny_bind (wpAny_pure (wpAny_bind (L0.at (wpAny_bind (L3.at ?_)))))
  show wpAny _ _ (holding [Value.builtin "object.__class__"] (call (.builtin "getset_descriptor.__get__") [.builtin "object.__class__", .ref x, .ref D]) >>= ret) _ _ _
  refine wpAny_bind (wpAny_holding (wpAny_call (class_get (s := ⟨hp, g, d, t + 1, os⟩) (ox := ox) (od := od) X I hm ?_)))
  refine wpAny_pure ?_
  show wpAny _ _ (handedOut (.ref D)) _ _ _
  rw [handedOut_of (v := .ref D) rfl]
  first
    | exact wpAny_pure (wpAny_pure h)
    | exact wpAny_pure h
    | exact wpAny_pure (wpAny_bind (wpAny_pure (wpAny_pure h)))
theorem kit_err (hga : findIn K (.ref D) "__getattribute__" = some (some (.builtin "BaseException.__getattribute__"))) (hgt : findIn K (.ref D) "__getattr__" = some none) (hsub : subIn K (.ref D) (.type "BaseException") = some true) (hdct : hasDictIn K D = true) (ha : findIn K (.ref D) "__class__" = some (some (.builtin "object.__class__")))
    (hn : specialIn K (.builtin "object.__class__") "__get__" = some (some (.builtin "getset_descriptor.__get__"))) (htk : takesIn K (.builtin "object.__class__") = some true) (hm : mroIn K D (.type "object") = some true) :
    KitX K (.ref x) (.ref D) (fun h => ∃ ox od, InstAt h x ox D od) where
  ty := fun _ _ _ ⟨_, _, I⟩ => I.type
  it := fun _ _ X _ => by
    obtain ⟨cdD, hcD, _⟩ := any_some hdct
    unfold clsIn at hcD
    split at hcD
    · rename_i c' d' cd' sl' ho
      intro A' Q' E' s' k q
      unfold isType loadHead
      exact wpAny_bind (wpAny_loadPart (k _ _ (X _ _ ho)) (wpAny_pure q))
    · cases hcD
  ne := fun h tp dd its n sl X htp => by
    obtain ⟨cdD, hcD, _⟩ := any_some hdct
    refine Bool.eq_false_iff.mpr fun q => ?_
    have e : D = tp := Value.ref.inj (beq_iff_eq.mp q)
    subst e
    unfold clsIn at hcD
    split at hcD
    · rename_i c' d' cd' sl' ho
      have z := (X _ _ ho).symm.trans htp
      cases z
    · cases hcD
  ca := fun X ⟨_, _, I⟩ k => class_at hga hgt hsub hdct ha hn htk hm X I k
end
/-- what the built-in members say of __class__ -/
structure ClsG (K : PySem.W.Frag) : Prop where
  hn : PySem.W.specialIn K (.builtin "object.__class__") "__get__" = some (some (.builtin "getset_descriptor.__get__"))
  ht : PySem.W.takesIn K (.builtin "object.__class__") = some true
/-- an error that was caught: its object as it stands -/
def exq (a : Addr) (oe : Obj) : HO := .ext fun h => h.get? a = some oe
theorem exq_at {P : Program} {w : World} {H : Hp} {h : Heap} {a : Addr} {oe : Obj} (ok : HOk P w H h) (e : H a = some (exq a oe)) : h.get? a = some oe := (ok a _ e).1
theorem exq_ok {P : Program} {w : World} {H : Hp} {h : Heap} {a : Addr} {oe : Obj} (e : h.get? a = some oe) : ObjOk P w H h a (exq a oe) := ⟨e, ⟨oe, e⟩, fun h1 h2 x k => k _ x⟩
/-- an error of the class at C stands at a, with its dict -/
def ErrAt (H : Hp) (a C : Addr) (fs : List (Str × V)) : Prop := (H a = some (exo a C none) ∧ fs = []) ∨ (∃ d, H a = some (exo a C (some d)) ∧ H d = some (exd d fs)) ∨ ∃ oe, H a = some (exq a oe) ∧ oe.cls = .ref C ∧ PySem.W.notCls oe = true ∧ ((oe.dict = none ∧ fs = []) ∨ ∃ d, oe.dict = some d ∧ H d = some (.xd fs))
theorem ErrAt.mono {H H' : Hp} {a C : Addr} {fs : List (Str × V)} (s : Same H H') (h : ErrAt H a C fs) : ErrAt H' a C fs := by
  rcases h with ⟨h, e⟩ | ⟨d, h1, h2⟩ | ⟨oe, h1, h2, hn, h3⟩
  · exact .inl ⟨s _ _ h, e⟩
  · exact .inr (.inl ⟨d, s _ _ h1, s _ _ h2⟩)
  · exact .inr (.inr ⟨oe, s _ _ h1, h2, hn, h3.imp id fun ⟨d, h4, h5⟩ => ⟨d, h4, s _ _ h5⟩⟩)
theorem exo_lst {e C : Addr} {d : Option Addr} {xs : List V} : exo e C d ≠ .lst xs := fun z => by
  have z' : HO.ext _ = HO.lst xs := z
  cases z'
theorem exq_lst {e : Addr} {o : Obj} {xs : List V} : exq e o ≠ .lst xs := fun z => by
  have z' : HO.ext _ = HO.lst xs := z
  cases z'
theorem exd_lst {e : Addr} {fs : List (Str × V)} {xs : List V} : exd e fs ≠ .lst xs := fun z => by
  have z' : HO.ext _ = HO.lst xs := z
  cases z'
theorem ErrAt.mut {H : Hp} {a C S : Addr} {fs : List (Str × V)} {l : List V} {o : HO} (e : H S = some (.lst l)) (h : ErrAt H a C fs) : ErrAt (upd H S o) a C fs := by
  rcases h with ⟨h, e2⟩ | ⟨d, h1, h2⟩ | ⟨oe, h1, h2, hn, h3⟩
  · exact .inl ⟨by rw [upd_ne (Ne.symm (at_ne h e exo_lst))]; exact h, e2⟩
  · exact .inr (.inl ⟨d, by rw [upd_ne (Ne.symm (at_ne h1 e exo_lst))]; exact h1, by rw [upd_ne (Ne.symm (at_ne h2 e exd_lst))]; exact h2⟩)
  · exact .inr (.inr ⟨oe, by rw [upd_ne (Ne.symm (at_ne h1 e exq_lst))]; exact h1, h2, hn, h3.imp id fun ⟨d, h4, h5⟩ => ⟨d, h4, by rw [upd_ne (ne_of h5 e (fun z => by cases z))]; exact h5⟩⟩)
section
variable {X : Cx} {pins : List (Addr × Obj)} {σ : L2.St} {H : Hp} {s : Shared} {a C : Addr} {fs : List (Str × V)}
theorem err_inst (I : Inv X pins σ H s) (h : ErrAt H a C fs) : ∃ (ox : Obj) (od : Option Obj) (mA : Str → Option Value), PySem.W.InstAt s.heap a ox C od ∧ (∀ o, od = some o → ∀ n, PySem.W.lookIn n o = some (mA n)) ∧ (fs ≠ [] → od.isSome = true) ∧ ∀ f, RelO (fs.lookup f) (mA f) := by
  rcases h with ⟨h, rfl⟩ | ⟨d, h1, h2⟩ | ⟨oe, h1, h2, hn, h3⟩
  · obtain ⟨t1, ho⟩ := exo_at I.hok h
    exact ⟨_, none, fun _ => none, ⟨ho, rfl, rfl, trivial⟩, fun o e => (by cases e), fun z => (z rfl).elim, fun f => trivial⟩
  · obtain ⟨t1, ho⟩ := exo_at I.hok h1
    obtain ⟨mA, hns, hr⟩ := exd_at I.hok h2
    obtain ⟨od, hod, hl⟩ := lookIn_ns hns
    exact ⟨_, some od, mA, ⟨ho, rfl, rfl, hod⟩, fun o e n => by cases e; exact hl n, fun _ => rfl, hr⟩
  · have ho := exq_at I.hok h1
    rcases h3 with ⟨hd, rfl⟩ | ⟨d, hd, h4⟩
    · exact ⟨_, none, fun _ => none, ⟨ho, h2, hn, by rw [hd]; trivial⟩, fun o e => (by cases e), fun z => (z rfl).elim, fun f => trivial⟩
    · obtain ⟨mA, hns, hr⟩ := (show ∃ mA, s.heap.Ns1 d mA ∧ ∀ f, RelO (fs.lookup f) (mA f) from I.hok d _ h4)
      obtain ⟨od, hod, hl⟩ := lookIn_ns hns
      exact ⟨_, some od, mA, ⟨ho, h2, hn, by rw [hd]; exact hod⟩, fun o e n => by cases e; exact hl n, fun _ => rfl, hr⟩
end
section
variable {X : Cx} {K : PySem.W.Frag} {C fI : Addr} {refs : List Addr} {B newId initId : String} {bmB : List Value}
/-- isinstance(e, c), e an error -/
def rIsErr (K : PySem.W.Frag) : List V → Hp → VK → Prop := fun xs H Q => ∃ (a C : Addr) (fs : List (Str × V)) (refs : List Addr) (B newId initId : String) (bmB : List Value) (c : V) (cv : Value) (b : Bool), xs = [.ref a, c] ∧ ClsV c cv ∧ ErrAt H a C fs ∧ ErrC K C refs newId bmB ∧ Fam B newId initId bmB ∧ ClsG K ∧ PySem.W.kitOne K (.ref C) cv = some b ∧ Q (.bl b) H
theorem callIsErr (hK : X.K = K := by rfl) : CallR X (.builtin "isinstance") (rIsErr K) := by
  subst hK
  intro pins s σ H xs us Q I r h
  obtain ⟨a, C, fs, refs, B, newId, initId, bmB, c, cv, b, rfl, k, hE, T, m, G, e, q⟩ := h
  obtain ⟨u1, u2, rfl, r1, r2⟩ := vals2 r
  have e2 := k.eq r2
  subst e2
  cases r1
  obtain ⟨ox, od, mA, J, _⟩ := err_inst I hE
  have hob : PySem.W.mroIn X.K C (.type "object") = some true := by rw [T.mro, List.contains_cons, refs_has, m.obj, Bool.or_true]
  exact PySem.W.kia_one (kit_err T.ga T.gg (T.exC m) T.hdC T.ca G.hn G.ht hob) I.kIn ⟨ox, od, J⟩ e (fun z => nomatch z) fun tk => ⟨.bl b, H, I.kept (t' := tk) fun _ _ z => z, rfl, q⟩
/-- e.f, e an error -/
def rFldE (K : PySem.W.Frag) (f : Str) (x : V) (H : Hp) (Q : VK) : Prop := ∃ (a C : Addr) (fs : List (Str × V)) (refs : List Addr) (B newId initId : String) (bmB : List Value) (v : V), x = .ref a ∧ ErrAt H a C fs ∧ ErrC K C refs newId bmB ∧ Fam B newId initId bmB ∧ PySem.W.findIn K (.ref C) f = some none ∧ fs.lookup f = some v ∧ Q v H
def tFldE (K : PySem.W.Frag) (f : Str) (te : TE) : TE := fun σ H Q => te σ H fun x H1 => rFldE K f x H1 Q
theorem c_fldE {f : Str} {te : TE} {σ : L2.St} {H : Hp} {Q : VK} (h : te σ H fun x H1 => rFldE K f x H1 Q) : tFldE K f te σ H Q := h
theorem peFldE {e : Expr} {f : Str} {te : TE} {pos : Pos} (he : PE X e te) (hb : attributeBase e f X.env (eval e X.env) = eval e X.env := by rfl) (hK : X.K = K := by rfl) : PE X (.Attribute e f pos) (tFldE K f te) := by
  subst hK
  refine ⟨fun pins s σ H Q I h => ?_⟩
  refine attr_of hb (thn (he.run pins s σ H _ I h) fun u s1 hh => ?_)
  obtain ⟨x, H1, I1, rx, a, C, fs, refs, B, newId, initId, bmB, v, rfl, hE, T, m, hno, l, q⟩ := hh
  obtain rfl : u = Value.ref a := rx
  obtain ⟨ox, od, mA, J, hl, hsome, hr⟩ := err_inst I1 hE
  have hne : fs ≠ [] := fun z => by
    rw [z] at l
    cases l
  obtain ⟨o, rfl⟩ := Option.isSome_iff_exists.mp (hsome hne)
  obtain ⟨u, hu, ru⟩ := RelO.some_of (v := v) (o := mA f) (by rw [← l]; exact hr f)
  exact HandSPX.exc_get I1.kIn J T.ga T.gg (T.exC m) (PySem.W.findObj_own T.hdC hno rfl (by rw [hl o rfl, hu])) (handed_of ru) ⟨v, H1, I1.tok _, ru, q⟩
/-- self.f = e, self an error that is being made -/
def rSetE (K : PySem.W.Frag) (f : Str) (y x : V) (σ : L2.St) (H : Hp) (D : Ends) : Prop := ∃ (a C : Addr) (refs : List Addr) (B newId initId : String) (bmB : List Value), x = .ref a ∧ ErrC K C refs newId bmB ∧ Fam B newId initId bmB ∧ PySem.W.findIn K (.ref C) f = some none ∧ H a = some (exo a C none) ∧ ∀ dx, H dx = none → dx ≠ a → D.nx σ (upd (upd H dx (exd dx [(f, y)])) a (exo a C (some dx)))
def tSetE (K : PySem.W.Frag) (f : Str) (to te : TE) : TS := fun D σ H => te σ H fun y H1 => to σ H1 fun x H2 => rSetE K f y x σ H2 D
theorem c_setE {f : Str} {to te : TE} {D : Ends} {σ : L2.St} {H : Hp} (h : te σ H fun y H1 => to σ H1 fun x H2 => rSetE K f y x σ H2 D) : tSetE K f to te D σ H := h
theorem psSetE {o e : Expr} {f : Str} {to te : TE} {p' pos : Pos} (ho : PE X o to) (he : PE X e te) (hs : swapsWith e (some (.Attribute o f p')) pos.line X.env = pure false := by rfl) (hK : X.K = K := by rfl) : PS X (.Assign [.Attribute o f p'] e pos) (tSetE K f to te) := by
  subst hK
  refine ⟨fun pins s σ H D I h => ?_⟩
  refine plainObj_wpAny_Assign_Attribute (thn (he.run pins s σ H _ I h) fun v s1 ⟨y, H1, I1, r1, q1⟩ => thn (ho.run pins s1 σ H1 _ I1 q1) fun u s2 ⟨x, H2, I2, r2, a, C, refs, B, newId, initId, bmB, ex, T, m, hno, ea, q⟩ => ?_) hs
  subst ex
  obtain rfl : u = Value.ref a := r2
  exact err_new T m I2 ea hno r1 fun dx s' n ne J => ⟨σ, _, J, q dx n ne⟩
/-- what __init__(self, f) of an error promises -/
def spErr (C : Addr) (f : Str) : Sp := fun vs H Q _ => ∃ (a : Addr) (v : V), vs = [.ref a, v] ∧ H a = some (exo a C none) ∧ ∀ dx, H dx = none → dx ≠ a → Q .non (upd (upd H dx (exd dx [(f, v)])) a (exo a C (some dx)))
/-- C(v): a new error that has its field -/
def rMkE (C : Addr) (f : Str) (vs : List V) (H : Hp) (Q : VK) : Prop := ∃ v, vs = [v] ∧ ∀ a d, H a = none → H d = none → d ≠ a → Q (.ref a) (upd (upd H d (exd d [(f, v)])) a (exo a C (some d)))
def tMkE (C : Addr) (f : Str) (t : TA) : TE := fun σ H Q => t σ H fun vs H1 => rMkE C f vs H1 Q
theorem c_mkE {f : Str} {t : TA} {σ : L2.St} {H : Hp} {Q : VK} (h : t σ H fun vs H1 => rMkE C f vs H1 Q) : tMkE C f t σ H Q := h
theorem c_rmkE {f : Str} {v : V} {H : Hp} {Q : VK} (h : ∀ a H', H a = none → Same H H' → ErrAt H' a C [(f, v)] → Q (.ref a) H') : rMkE C f [v] H Q := by
  refine ⟨v, rfl, fun a d na nd ne => h a _ na (fun b o e => ?_) (.inr (.inl ⟨d, upd_same, ?_⟩))⟩
  · rw [upd_ne (ne_of_none e na), upd_ne (ne_of_none e nd)]
    exact e
  · rw [upd_ne ne, upd_same]
/-- an error's own __init__ -/
structure ErrI (K : PySem.W.Frag) (C fI : Addr) : Prop where
  iC : PySem.W.findIn K (.ref C) "__init__" = some (some (.ref fI))
  tI : PySem.W.typeIn K (.ref fI) = some (.type "function")
end
section
variable {X : Cx} {C fI : Addr} {refs : List Addr} {B newId initId : String} {bmB : List Value} {k : Nat} {fd : FuncData} {ps : List Str} {f x : Str} {e : Expr} {t : TA} {p pos : Pos}
theorem mk_back {pins : List (Addr × Obj)} {σ : L2.St} {H1 : Hp} {Q : VK} {hp h2 : Heap} {g : Array GenState} {d : Drawn} {tk : Nat} {os : OsState} {us : List Value} {s' : Shared} {r : Result} {v : V}
    (I2 : Inv X pins σ (upd H1 (hp.objs.size + 1) (exo (hp.objs.size + 1) C none)) ⟨h2, g, d, tk, os⟩) (hn : H1 (hp.objs.size + 1) = none) (q1 : ∀ a d, H1 a = none → H1 d = none → d ≠ a → Q (.ref a) (upd (upd H1 d (exd d [(f, v)])) a (exo a C (some d))))
    (hq : CR CX0 X.stack X.prog X.w (upd H1 (hp.objs.size + 1) (exo (hp.objs.size + 1) C none)) ⟨h2, g, d, tk, os⟩ (fun z H2 => z = .non ∧ ∃ dx, H1 dx = none ∧ dx ≠ hp.objs.size + 1 ∧ H2 = upd (upd (upd H1 (hp.objs.size + 1) (exo (hp.objs.size + 1) C none)) dx (exd dx [(f, v)])) (hp.objs.size + 1) (exo (hp.objs.size + 1) C (some dx))) (fun _ _ _ => False) r s') :
    PySem.W.InitBack (hp.objs.size + 1) (fun r s' => match r with | .ok (.ret u) => EP X pins σ Q u s' | .ok _ => False | .error e => X.xe e s') r s' := by
  cases r with
  | error er => exact (show False from hq).elim
  | ok fl =>
    cases fl with
    | ret u =>
      obtain ⟨z, H2, I3, rv, ez, dx, n1, n2, eH⟩ := I2.after hq
      subst ez
      refine ⟨rv, .ref (hp.objs.size + 1), H2, I3, rfl, ?_⟩
      have e3 : H2 = upd (upd H1 dx (exd dx [(f, v)])) (hp.objs.size + 1) (exo (hp.objs.size + 1) C (some dx)) := by
        rw [eH]
        funext b
        by_cases h1 : b = hp.objs.size + 1
        · rw [h1, upd_same, upd_same]
        · rw [upd_ne h1, upd_ne h1]
          by_cases h2 : b = dx
          · rw [h2, upd_same, upd_same]
          · rw [upd_ne h2, upd_ne h2, upd_ne h1]
      rw [e3]
      exact q1 _ dx hn n1 n2
    | next => exact False.elim hq
    | brk => exact False.elim hq
    | cont => exact False.elim hq
theorem pe_mkE (T : ErrC X.K C refs newId bmB) (m : Fam B newId initId bmB) (W : ErrI X.K C fI) (F1 : FnOk X.prog X.w X.K X.mg X.base CX0 k fI fd ps (spErr C f)) (hr : Room (k + 1) X.A) (hb : Binds X.K fd ps []) (hg : Gl X x) (hm : X.mg x = some (.ref C)) (ha : PA X [e] t)
    (hdb : (x == ("__debug__" : Str)) = false := by decide) (he : starEach [e] X.env = (false, eval e X.env) :: starEach [] X.env := by rfl) (hpl : (backTo pos (starEach [] X.env)).any (·.1) = false := by rfl) :
    PE X (.Call (.Name x p) [e] [] pos) (tMkE C f t) := by
  refine ⟨fun pins s σ H Q I h => ?_⟩
  obtain ⟨nm, q, N, bs, sn, sub, ab, col, dd, k0, k1, k2, k3, k5, hC⟩ := T.cls
  refine wpAny_Call_Name_kw (ld_glob I hg hm ?_ hdb)
  refine PySem.W.callWith_K (h₀ := X.base) I.ok.mod.kin T.kC (thn (ha.run pos pins s σ H _ I h) fun us s1 ⟨vs, H1, I1, r1, v, ev, q1⟩ => ⟨I1.kIn, ?_⟩) he hpl
  subst ev
  obtain ⟨u, rfl, ru⟩ := vals1 r1
  show wpAny _ _ (call (.ref C) [u]) _ _ _
  obtain ⟨hp, g, dr, tk, os⟩ := s1
  have hsz : hp.objs.size ≤ hp.objs.size + 1 := Nat.le_succ _
  have hn : H1 (hp.objs.size + 1) = none := I1.hok.fresh hsz
  have kk : ∀ b o, hp.get? b = some o → ((hp.push (PySem.W.kdv_tup [u])).push (PySem.HandSPX.excO C hp.objs.size)).get? b = some o := fun b o e => Heap.get?_push_of_some _ (Heap.get?_push_of_some _ e)
  have hget : ((hp.push (PySem.W.kdv_tup [u])).push (PySem.HandSPX.excO C hp.objs.size)).get? (hp.objs.size + 1) = some (PySem.HandSPX.excO C hp.objs.size) := by heap_get
  have I2 : Inv X pins σ (upd H1 (hp.objs.size + 1) (exo (hp.objs.size + 1) C none)) ⟨(hp.push (PySem.W.kdv_tup [u])).push (PySem.HandSPX.excO C hp.objs.size), g, dr, tk, os⟩ :=
    I1.laid (t' := tk) (a := hp.objs.size + 1) (o := exo (hp.objs.size + 1) C none) (h' := (hp.push (PySem.W.kdv_tup [u])).push (PySem.HandSPX.excO C hp.objs.size)) kk hsz (exo_ok hget)
  have r2 : Vals [V.ref (hp.objs.size + 1), v] [Value.ref (hp.objs.size + 1), u] := .cons rfl (.cons ru .nil)
  have hq : spErr C f [V.ref (hp.objs.size + 1), v] (upd H1 (hp.objs.size + 1) (exo (hp.objs.size + 1) C none)) (fun z H2 => z = .non ∧ ∃ dx, H1 dx = none ∧ dx ≠ hp.objs.size + 1 ∧ H2 = upd (upd (upd H1 (hp.objs.size + 1) (exo (hp.objs.size + 1) C none)) dx (exd dx [(f, v)])) (hp.objs.size + 1) (exo (hp.objs.size + 1) C (some dx))) (fun _ _ _ => False) :=
    ⟨_, v, rfl, upd_same, fun dx n ne => ⟨rfl, dx, by rw [upd_ne ne] at n; exact n, ne, rfl⟩⟩
  have hl := F1.len _ _ _ _ hq
  refine wpAny_call (PySem.HandSPX.call_own m.F (fun Y => refs_has Y refs) (I1.kIn _ _ hC) (PySem.W.looks_findIn I1.kIn W.iC) (fun self => PySem.W.bind_fn I1.kIn self W.tI) (by rw [sizeLine_eq]; show 1 ≤ _; decide)
    (codeAny_mono (F1.run _ X.stack _ _ ⟨[Value.ref (hp.objs.size + 1), u], []⟩ [Value.ref (hp.objs.size + 1), u] _ _ (fun _ _ _ => False) (hr.make C [u] []) (I2.env0.make C [u] []) (by
      have z := hb ⟨(hp.push (PySem.W.kdv_tup [u])).push (PySem.HandSPX.excO C hp.objs.size), g, dr, tk, os⟩ [Value.ref (hp.objs.size + 1), u] I2.kIn (by simpa using hl)
      simpa using z) r2 hq) fun r s' hq' => ?_))
  exact mk_back (us := [u]) I2 hn q1 hq'
theorem pe_mkEK {kws : List Keyword} {tk : TA} (T : ErrC X.K C refs newId bmB) (m : Fam B newId initId bmB) (W : ErrI X.K C fI) (F1 : FnOk X.prog X.w X.K X.mg X.base CX0 k fI fd ps (spErr C f)) (hr : Room (k + 1) X.A) (hb : KBinds X.K fd ps [f] (gK 1 1) (gK 1 1)) (hg : Gl X x) (hm : X.mg x = some (.ref C)) (hkw : PK X kws tk)
    (hdb : (x == ("__debug__" : Str)) = false := by decide) (hall : (backToKw pos (keywordEach kws X.env)).all (·.1.isSome) = true := by rfl) (hks : (backToKw pos (keywordEach kws X.env)).filterMap (·.1) = [f] := by rfl)
    (hpl : ((backTo pos (starEach [] X.env)).any (·.1) || (backToKw pos (keywordEach kws X.env)).any (·.1.isNone)) = false := by rfl) :
    PE X (.Call (.Name x p) [] kws pos) (tMkE C f tk) := by
  refine ⟨fun pins s σ H Q I h => ?_⟩
  obtain ⟨nm, q, N, bs, sn, sub, ab, col, dd, k0, k1, k2, k3, k5, hC⟩ := T.cls
  refine wpAny_Call_Name_kw (ld_glob I hg hm ?_ hdb)
  refine PySem.W.callWith_KW0 (first := []) (h₀ := X.base) I.ok.mod.kin T.kC hall (thn (hkw.run pos pins s σ H _ I h) fun us s1 ⟨vs, H1, I1, r1, v, ev, q1⟩ => ⟨I1.kIn, ?_⟩) hpl
  subst ev
  obtain ⟨u, rfl, ru⟩ := vals1 r1
  rw [hks]
  show wpAny _ _ (call (.ref C) [] [(f, u)]) _ _ _
  obtain ⟨hp, g, dr, tk, os⟩ := s1
  have hsz : hp.objs.size ≤ hp.objs.size + 1 := Nat.le_succ _
  have hn : H1 (hp.objs.size + 1) = none := I1.hok.fresh hsz
  have kk : ∀ b o, hp.get? b = some o → ((hp.push (PySem.W.kdv_tup [])).push (PySem.HandSPX.excO C hp.objs.size)).get? b = some o := fun b o e => Heap.get?_push_of_some _ (Heap.get?_push_of_some _ e)
  have hget : ((hp.push (PySem.W.kdv_tup [])).push (PySem.HandSPX.excO C hp.objs.size)).get? (hp.objs.size + 1) = some (PySem.HandSPX.excO C hp.objs.size) := by heap_get
  have I2 : Inv X pins σ (upd H1 (hp.objs.size + 1) (exo (hp.objs.size + 1) C none)) ⟨(hp.push (PySem.W.kdv_tup [])).push (PySem.HandSPX.excO C hp.objs.size), g, dr, tk, os⟩ :=
    I1.laid (t' := tk) (a := hp.objs.size + 1) (o := exo (hp.objs.size + 1) C none) (h' := (hp.push (PySem.W.kdv_tup [])).push (PySem.HandSPX.excO C hp.objs.size)) kk hsz (exo_ok hget)
  have r2 : Vals [V.ref (hp.objs.size + 1), v] [Value.ref (hp.objs.size + 1), u] := .cons rfl (.cons ru .nil)
  have hq : spErr C f [V.ref (hp.objs.size + 1), v] (upd H1 (hp.objs.size + 1) (exo (hp.objs.size + 1) C none)) (fun z H2 => z = .non ∧ ∃ dx, H1 dx = none ∧ dx ≠ hp.objs.size + 1 ∧ H2 = upd (upd (upd H1 (hp.objs.size + 1) (exo (hp.objs.size + 1) C none)) dx (exd dx [(f, v)])) (hp.objs.size + 1) (exo (hp.objs.size + 1) C (some dx))) (fun _ _ _ => False) :=
    ⟨_, v, rfl, upd_same, fun dx n ne => ⟨rfl, dx, by rw [upd_ne ne] at n; exact n, ne, rfl⟩⟩
  have hl := F1.len _ _ _ _ hq
  refine wpAny_call (kw_call m.F (fun Y => refs_has Y refs) (I1.kIn _ _ hC) (PySem.W.looks_findIn I1.kIn W.iC) (fun self => PySem.W.bind_fn I1.kIn self W.tI)
    (codeAny_mono (F1.run _ X.stack _ _ ⟨[Value.ref (hp.objs.size + 1)], [(f, u)]⟩ [Value.ref (hp.objs.size + 1), u] _ _ (fun _ _ _ => False) (hr.make C [] [(f, u)]) (I2.env0.make C [] [(f, u)]) (by
      have z := hb.to ⟨(hp.push (PySem.W.kdv_tup [])).push (PySem.HandSPX.excO C hp.objs.size), g, dr, tk, os⟩ [Value.ref (hp.objs.size + 1)] [u] I2.kIn (by show (gK 1 1 _ _).length = _; exact hl)
      exact z) r2 hq) fun r s' hq' => ?_))
  exact mk_back (us := []) I2 hn q1 hq'
/-- C(), an error of a class without an __init__ of its own -/
def rMkE0 (C : Addr) (H : Hp) (Q : VK) : Prop := ∀ a H', H a = none → Same H H' → ErrAt H' a C [] → Q (.ref a) H'
def tMkE0 (C : Addr) : TE := fun σ H Q => rMkE0 C H Q
theorem c_mkE0 {σ : L2.St} {H : Hp} {Q : VK} (h : ∀ a H', H a = none → Same H H' → ErrAt H' a C [] → Q (.ref a) H') : tMkE0 C σ H Q := h
theorem pe_mkE0 (m : ExcBaseFacts B newId initId bmB) (q : PySem.W.excIn X.K C bmB newId = true) (kC : PySem.W.keepIn X.K (.ref C) = true) (hg : Gl X x) (hm : X.mg x = some (.ref C)) (hdb : (x == ("__debug__" : Str)) = false := by decide) :
    PE X (.Call (.Name x p) [] [] pos) (tMkE0 C) := by
  refine ⟨fun pins s σ H Q I h => ?_⟩
  refine wpAny_Call_Name_kw (ld_glob I hg hm ?_ hdb)
  refine PySem.W.callWith_K0 I.kIn kC ?_
  show wpAny _ _ (call (.ref C) []) _ _ _
  obtain ⟨bm, N, nm, qn, bs, hdct, sn, sub, ab, col, dd, k0, k1, k2, k3, k5, mN, hC, hN, hni, T⟩ := exc_obj I.kIn q
  refine wpAny_call_exc_subT m T hC hN hni (fun h' a hmade => ?_) (by show 0 ≤ sizeLine; exact Nat.zero_le _)
  have hn : H a = none := I.hok.gone hmade.new
  obtain ⟨t, ht, _, _⟩ := hmade.there
  exact ⟨.ref a, upd H a (exo a C none), I.laidN hmade.keeps hmade.new hn (exo_ok ht), rfl, h a _ hn (same_new hn) (.inl ⟨upd_same, rfl⟩)⟩
end
end Und
/-! calls by keywords alone; texts of data -/
namespace Und
open PySem PySem.Spec PyProof.Rows L2
/-- two parameters, named the other way round -/
def gSwap {α : Type} : List α → List α → List α
  | [], [a, b] => [b, a]
  | _, _ => []
/-- one parameter by its name -/
def gOne {α : Type} : List α → List α → List α
  | [], [a] => [a]
  | _, _ => []
theorem gSwap_rel : ∀ {vs : List V} {us : List Value} {zs : List V} {ws : List Value}, Vals vs us → Vals zs ws → Vals (gSwap vs zs) (gSwap us ws) := by
  intro vs us zs ws h g
  cases h with
  | nil =>
    cases g with
    | nil => exact .nil
    | cons a g =>
      cases g with
      | nil => exact .nil
      | cons b g =>
        cases g with
        | nil => exact .cons b (.cons a .nil)
        | cons c g => exact .nil
  | cons a h => cases g <;> exact .nil
theorem gOne_rel : ∀ {vs : List V} {us : List Value} {zs : List V} {ws : List Value}, Vals vs us → Vals zs ws → Vals (gOne vs zs) (gOne us ws) := by
  intro vs us zs ws h g
  cases h with
  | nil =>
    cases g with
    | nil => exact .nil
    | cons a g =>
      cases g with
      | nil => exact .cons a .nil
      | cons b g => exact .nil
  | cons a h => cases g <;> exact .nil
theorem fun_swap {K : PySem.W.Frag} {x qual : Str} {st : Stmt} {f : Addr} {fd : FuncData} {p1 p2 : Str} (F : Fun K x qual st f fd)
    (h : ∀ (kV doc pm : Value) (an : Option Addr) (cdv ct a b : Value), bindArgs (PySem.W.fnOf x qual (defArgs st) (defBody st) (defScope st) .none kV doc pm an cdv ct) ⟨[], [(p2, a), (p1, b)]⟩ = pure [(p1, b), (p2, a)]) : KBinds K fd [p1, p2] [p2, p1] gSwap gSwap := by
  obtain ⟨oc, od, kV, doc, pm, an, cdv, ct, osl, rfl, lk, hcd⟩ := F.ex
  refine ⟨fun s us ws _ hl => ?_, gSwap_rel⟩
  match us, ws, hl with
  | [], [a, b], _ => exact .of_eq (h kV doc pm an cdv ct a b)
  | [], [], hl => exact absurd hl (by simp [gSwap])
  | [], [_], hl => exact absurd hl (by simp [gSwap])
  | [], _ :: _ :: _ :: _, hl => exact absurd hl (by simp [gSwap])
  | _ :: _, ws, hl => exact absurd hl (by simp [gSwap])
section
variable {X : Cx} {CX : CXT} {k : Nat} {f : Addr} {fd : FuncData} {ps ks : List Str} {sp : Sp} {E : XK} {x : Str} {p pos : Pos} {kws : List Keyword} {tk : TA} {g : List Value → List Value → List Value} {gV : List V → List V → List V}
def tCallK0 (sp : Sp) (gV : List V → List V → List V) (E : XK) (tk : TA) : TE := fun σ H Q => tk σ H fun zs H2 => sp (gV [] zs) H2 Q E
/-- f(k = v, ..) -/
theorem pe_callK0 (F : FnOk X.prog X.w X.K X.mg X.base CX k f fd ps sp) (hr : Room k X.A) (hg : Gl X x) (hm : X.mg x = some (.ref f)) (hk : PySem.W.keepIn X.K (.ref f) = true) (hb : KBinds X.K fd ps ks g gV) (hx : Passes CX X E)
    (hkw : PK X kws tk) (hall : (backToKw pos (keywordEach kws X.env)).all (·.1.isSome) = true := by rfl) (hks : (backToKw pos (keywordEach kws X.env)).filterMap (·.1) = ks := by rfl)
    (hdb : (x == ("__debug__" : Str)) = false := by decide)
    (hpl : ((backTo pos (starEach [] X.env)).any (·.1) || (backToKw pos (keywordEach kws X.env)).any (·.1.isNone)) = false := by rfl) :
    PE X (.Call (.Name x p) [] kws pos) (tCallK0 sp gV E tk) := by
  refine ⟨fun pins s σ H Q I h => ?_⟩
  refine wpAny_Call_Name_kw (ld_glob I hg hm ?_ hdb)
  refine PySem.W.callWith_KW0 (h₀ := X.base) I.ok.mod.kin hk hall ?_ hpl
  refine thn (hkw.run pos pins s σ H _ I h) fun ws s2 ⟨zs, H2, I2, rz, q2⟩ => ⟨I2.kIn, ?_⟩
  rw [hks]
  exact run_fnk F hr hb hx I2 .nil rz q2
end
theorem c_callK0 {sp : Sp} {gV : List V → List V → List V} {E : XK} {tk : TA} {σ : L2.St} {H : Hp} {Q : VK} (h : tk σ H fun zs H2 => sp (gV [] zs) H2 Q E) : tCallK0 sp gV E tk σ H Q := h
/-! ### how long the texts of data are -/
def Shw (d : PyData) (n : Nat) : Prop := d.showable = true ∧ d.shown.length ≤ n
theorem Shw.mono {d : PyData} {n m : Nat} (h : Shw d n) (l : n ≤ m) : Shw d m := ⟨h.1, Nat.le_trans h.2 l⟩
theorem shw_all {n : Nat} : ∀ {ds : List PyData}, (∀ d ∈ ds, Shw d n) → PyData.showableAll ds = true ∧ ∀ t ∈ PyData.shownAll ds, t.length ≤ n
  | [], _ => ⟨by simp [PyData.showableAll], fun t ht => by simp [PyData.shownAll] at ht⟩
  | d :: ds, h => by
    have ih := shw_all fun x hx => h x (List.mem_cons_of_mem _ hx)
    have hd := h d List.mem_cons_self
    refine ⟨by rw [PyData.showableAll, hd.1, ih.1]; rfl, fun t ht => ?_⟩
    rw [PyData.shownAll] at ht
    rcases List.mem_cons.mp ht with rfl | ht
    · exact hd.2
    · exact ih.2 t ht
theorem shownAll_len : ∀ ds : List PyData, (PyData.shownAll ds).length = ds.length
  | [] => by simp [PyData.shownAll]
  | d :: ds => by rw [PyData.shownAll, List.length_cons, List.length_cons, shownAll_len ds]
theorem joinC_len {n : Nat} : ∀ ts : List Str, (∀ t ∈ ts, t.length ≤ n) → (Str.join ", " ts).length ≤ (n + 2) * ts.length
  | [], _ => Nat.zero_le _
  | [x], h => by
    have := h x List.mem_cons_self
    show x.length ≤ (n + 2) * 1
    omega
  | x :: y :: r, h => by
    have ih := joinC_len (y :: r) fun t ht => h t (List.mem_cons_of_mem _ ht)
    have hx := h x List.mem_cons_self
    have e2 : ((", " : String) : Str).length = 2 := rfl
    show (x ++ ", " ++ Str.join ", " (y :: r)).length ≤ _
    rw [PySem.Str.length_append, PySem.Str.length_append, e2, List.length_cons (a := x), Nat.mul_succ]
    omega
theorem shw_tuple {ds : List PyData} {n : Nat} (h : ∀ d ∈ ds, Shw d n) : Shw (.tuple ds) ((n + 2) * ds.length + 3) := by
  obtain ⟨a, b⟩ := shw_all h
  refine ⟨by rw [PyData.showable]; exact a, ?_⟩
  rw [PyData.shown]
  have := joinC_len _ b
  rw [shownAll_len] at this
  unfold tupleText
  have e1 : ((("(" : String) : Str)).length = 1 := rfl
  have e3 : (((if (PyData.shownAll ds).length == 1 then ",)" else ")" : String) : Str)).length ≤ 2 := by split <;> decide
  rw [PySem.Str.length_append, PySem.Str.length_append, e1]
  omega
theorem textFrom_le {n : Nat} : ∀ (ts : List Str) (k : Nat) (acc : Str), (∀ t ∈ ts, t.length ≤ n) → (textFrom k acc ts).length ≤ acc.length + (n + 2) * ts.length
  | [], _, _, _ => Nat.le_add_right _ _
  | t :: r, k, acc, h => by
    have ht := h t List.mem_cons_self
    have ih := textFrom_le r (k + 1) (acc ++ (if k > 0 then ", " else "" : String) ++ t) fun x hx => h x (List.mem_cons_of_mem _ hx)
    have e : (acc ++ (if k > 0 then ", " else "" : String) ++ t).length ≤ acc.length + 2 + t.length := by
      rw [PySem.Str.length_append, PySem.Str.length_append]
      have : (((if k > 0 then ", " else "" : String)) : Str).length ≤ 2 := by split <;> decide
      omega
    rw [List.length_cons, Nat.mul_succ]
    show (textFrom (k + 1) (acc ++ (if k > 0 then ", " else "" : String) ++ t) r).length ≤ _
    omega
theorem shw_list {ds : List PyData} {n : Nat} (h : ∀ d ∈ ds, Shw d n) : Shw (.list ds) ((n + 2) * ds.length + 3) := by
  obtain ⟨a, b⟩ := shw_all h
  refine ⟨by rw [PyData.showable]; exact a, ?_⟩
  rw [PyData.shown]
  have := textFrom_le (PyData.shownAll ds) 0 "[" b
  rw [shownAll_len] at this
  unfold listText
  have e1 : ((("[" : String) : Str)).length = 1 := rfl
  have e3 : ((("]" : String) : Str)).length = 1 := rfl
  rw [PySem.Str.length_append, e3]
  omega
theorem shw_int {i : Int} (h0 : 0 ≤ i) (h : i < 10 ^ 510) : Shw (.int i) 510 := by
  have hb : i.natAbs < 2 ^ 1700 := by
    have c : (10 : Int) ^ 510 < ((2 ^ 1700 : Nat) : Int) := by decide +kernel
    omega
  refine ⟨?_, ?_⟩
  · rw [PyData.showable]
    exact decide_eq_true (Nat.lt_trans (PySem.Flt.log2_lt_of (by decide) hb) (by decide))
  · rw [PyData.shown]
    exact toString_length_le h0 (by decide) h
theorem shw_name {z : Str} (h : IsName z) : Shw (.str z) 82 := by
  refine ⟨by rw [PyData.showable], ?_⟩
  rw [PyData.shown]
  have h1 := PySem.StrLaws.reprText_len z (fun c hc => Nat.lt_of_le_of_lt (h.low c hc).2 (by decide))
  have h2 := h.hi
  omega
theorem crR {X : Cx} {K : PySem.W.Frag} {k : Nat} (g : Still X.A) (r : Room k X.A) (h : X.K = K := by rfl) : CallR X (.builtin "repr") (crRepr K) := h ▸ cr_repr g r
/-- repr of data that is not long -/
theorem c_repr {K : PySem.W.Frag} {a : Addr} {d : PyData} {n m : Nat} {H : Hp} {Q : VK} (hd : Dp K H (.ref a) d) (ok : DOk d n) (ln : n ≤ 32) (sh : Shw d m) (lm : m ≤ 10000000) (h : Q (.str d.shown) H) : crRepr K [.ref a] H Q :=
  ⟨a, d, rfl, hd, sh.1, PyData.hasDict_of_canLay d ok.lay, Nat.le_trans ok.dep ln, Nat.le_trans sh.2 (Nat.le_trans lm (by decide)), h⟩
/-! ### a list is unpacked -/
theorem pgLst {X : Cx} {K : PySem.W.Frag} {es : List Expr} {k : Nat} {t : TGs} {n : Nat} {pos : Pos} (hc : X.calm = true) (ht : PGs X es t) (h : X.K = K := by rfl) (hn : (assignEach es X.env).length = n := by rfl) (hst : (assignEach es X.env).findIdx? (·.1) = none := by rfl) :
    PG X (.Tuple es k pos) (gLst K n t) := h ▸ pg_lst hc ht hn hst
theorem c_glst {K : PySem.W.Frag} {a : Addr} {xs : List V} {n : Nat} {t : TGs} {σ : L2.St} {H : Hp} {Q : L2.St → Hp → Prop} (e : SqL K H a xs) (hn : xs.length = n) (h : t xs σ H Q) : gLst K n t (.ref a) σ H Q := ⟨a, xs, rfl, e, hn, h⟩
end Und
/-! count and index over flat values; repr of a list of empty dicts -/
namespace Und
open PySem PySem.Spec PyProof.Rows L2
section
variable {X : Cx} {K : PySem.W.Frag} {a : Addr} {H : Hp} {Q : VK}
/-- list.count over flat values -/
def rCntV (K : PySem.W.Frag) (x : V) (xs : List V) (H : Hp) (Q : VK) : Prop := ∃ (a : Addr) (ys : List V) (y : V), x = V.ref a ∧ xs = [y] ∧ SqL K H a ys ∧ flatV y = true ∧ ys.all flatV = true ∧ Q (.int ((ys.countP fun z => eqV z y : Nat))) H
theorem cnt_eqU {y : V} : ∀ {ys : List V} {us : List Value}, Vals ys us → ys.all flatV = true → us.countP (eqU y) = ys.countP fun z => eqV z y
  | _, _, .nil, _ => rfl
  | z :: ys, u :: us, .cons r t, f => by
    rw [List.all_cons, Bool.and_eq_true] at f
    rw [List.countP_cons, List.countP_cons, cnt_eqU t f.2, eqU_of r f.1]
theorem mtCntV (h : X.K = K := by rfl) : MtR X "list.count" (rCntV K) := by
  subst h
  intro pins s σ H x xs v us Q I rx rxs h
  obtain ⟨a, ys, y, rfl, rfl, hs, fy, fys, q⟩ := h
  cases rx
  cases rxs with
  | cons ry rt =>
    rename_i uy ut
    cases rt
    obtain ⟨its, rv, ⟨⟨cls, dd, data, sl⟩, n, ho, hc, hdn, hd⟩, hlen⟩ := I.list hs
    simp only at hc hd
    subst hc hd
    refine call_meets PySem.F.slot_list_count ⟨_, ho, rfl⟩ PySem.F.entry_list_count (PySem.F.args_list_count_2 _ _)
      (SeqAt.list_countAt a its.toArray n dd sl uy (eqU y)) ⟨ho, fun u' hu' => mem_eqAt ry fy rv fys u' (by simpa using hu'), ?_⟩
    refine ⟨.int ((ys.countP fun z => eqV z y : Nat)), H, I.tok _, ⟨s.toks, ?_⟩, q⟩
    show Value.int ((its.toArray.toList.countP (eqU y) : Nat) : Int) s.toks = _
    rw [show its.toArray.toList = its from rfl, cnt_eqU rv fys]
theorem c_cntV {ys : List V} {y : V} (e : SqL K H a ys) (fy : flatV y = true) (fys : ys.all flatV = true) (h : Q (.int ((ys.countP fun z => eqV z y : Nat))) H) : rCntV K (.ref a) [y] H Q := ⟨a, ys, y, rfl, rfl, e, fy, fys, h⟩
def rIdxV (K : PySem.W.Frag) (x : V) (xs : List V) (H : Hp) (Q : VK) : Prop := rIndex K x xs H Q
theorem mtIdxV (h : X.K = K := by rfl) : MtR X "list.index" (rIdxV K) := h ▸ mt_index
theorem c_idxV {ys : List V} {y z : V} {j : Nat} (e : SqL K H a ys) (fy : flatV y = true) (fys : ys.all flatV = true) (hz : ys[j]? = some z) (hj : eqV z y = true) (hno : ∀ (m : Nat) (z' : V), m < j → ys[m]? = some z' → eqV z' y = false) (h : Q (.int (j : Nat)) H) : rIdxV K (.ref a) [y] H Q := ⟨a, ys, y, j, z, rfl, rfl, e, fy, fys, hz, hj, hno, h⟩
end
/-! ### a list display; a dict display -/
section
variable {X : Cx} {es : List Expr} {t : TA} {pos : Pos}
/-- a new list, which is not the table of modules -/
def rNewLB (xs : List V) (H : Hp) (Q : VK) : Prop := xs.length ≤ sizeLine ∧ ∀ p, H p = none → p ≠ sysModules → Q (.ref p) (upd H p (.lst xs))
def tLstB (t : TA) : TE := fun σ H Q => t σ H fun xs H1 => rNewLB xs H1 Q
theorem peLstB (h : PA X es t) : PE X (.List es pos) (tLstB t) := by
  refine ⟨fun pins s σ H Q I hq => ?_⟩
  refine wpAny_List_spliced (thn (h.run pos pins s σ H _ I hq) fun us s1 ⟨xs, H1, I1, r, z, q⟩ => ⟨by rw [← r.length]; exact z, ?_⟩)
  have hf : H1 s1.heap.objs.size = none := I1.hok.fresh (Nat.le_refl _)
  refine ⟨.ref s1.heap.objs.size, upd H1 s1.heap.objs.size (.lst xs), I1.laid (t' := s1.toks) (fun b u e => Heap.get?_push_of_some _ e) (Nat.le_refl _) ?_, rfl, q _ hf (Nat.ne_of_gt I1.big)⟩
  exact ⟨z, us, 0, r, Heap.get?_push_size _ rfl⟩
theorem c_lstB {σ : L2.St} {H : Hp} {Q : VK} (h : t σ H fun xs H1 => rNewLB xs H1 Q) : tLstB t σ H Q := h
theorem c_newLB {xs : List V} {H : Hp} {Q : VK} (z : xs.length ≤ 100000) (h : ∀ p H2, H p = none → p ≠ sysModules → Same H H2 → H2 p = some (.lst xs) → Q (.ref p) H2) : rNewLB xs H Q := ⟨sz z, fun p np nb => h p _ np nb (same_new np) upd_same⟩
end
/-! ### repr -/
section
variable {X : Cx} {K : PySem.W.Frag}
/-- a list of two empty dicts -/
theorem reads_two {pins : List (Addr × Obj)} {σ : L2.St} {H : Hp} {s : Shared} {a b : Addr} (I : Inv X pins σ H s) (e : H a = some (.lst [.ref b, .ref b])) (eb : H b = some (.dK [])) (ne : a ≠ sysModules) :
    ∃ as, Reads s.heap (.ref a) (.list [.dict [], .dict []]) as ∧ sysModules ∉ as := by
  obtain ⟨_, hsm, vs, kv, o, es, ep, ho, hx, hd, _, hp, _⟩ := dk_of I.hok eb
  have nb : b ≠ sysModules := beq_eq_false_iff_ne.mp hsm
  cases kv
  have hes : es.toList = [] := by
    generalize es.toList = l at hp
    cases hp
    rfl
  have rb : Reads s.heap (.ref b) (.dict []) (b :: [] ++ []) := Reads.dict ho hx.1 hd (by rw [hes]; exact .nil) (by rw [hes]; exact .nil)
  obtain ⟨_, us, n, r, ha⟩ := (show ObjOk X.prog X.w H s.heap a (.lst [.ref b, .ref b]) from I.hok a _ e)
  obtain ⟨u1, u2, rfl, r1, r2⟩ := vals2 r
  obtain rfl : u1 = Value.ref b := r1
  obtain rfl : u2 = Value.ref b := r2
  refine ⟨_, Reads.list ha rfl rfl (.cons rb (.cons rb .nil)), fun z => ?_⟩
  simp only [List.cons_append, List.nil_append, List.append_nil, List.mem_cons, List.not_mem_nil, or_false] at z
  rcases z with z | z | z
  · exact ne z.symm
  · exact nb z.symm
  · exact nb z.symm
/-- repr of data or of a list of two empty dicts -/
def crRepr2 (K : PySem.W.Frag) : List V → Hp → VK → Prop := fun xs H Q => crRepr K xs H Q ∨ ∃ (a b : Addr), xs = [.ref a] ∧ H a = some (.lst [.ref b, .ref b]) ∧ H b = some (.dK []) ∧ a ≠ sysModules ∧ Q (.str (PyData.list [.dict [], .dict []]).shown) H
theorem crR2 {k : Nat} (g : Still X.A) (r : Room k X.A) (h : X.K = K := by rfl) : CallR X (.builtin "repr") (crRepr2 K) := by
  subst h
  intro pins s σ H xs us Q I v h
  rcases h with h | ⟨a, b, rfl, ha, hb, ne, q⟩
  · exact cr_repr g r pins s σ H xs us Q I v h
  obtain ⟨u, rfl, hu⟩ : ∃ u, us = [u] ∧ u = Value.ref a := by
    cases v with
    | cons h1 h2 =>
      cases h2
      exact ⟨_, rfl, h1⟩
  subst hu
  obtain ⟨as, rd, hns⟩ := reads_two I ha hb ne
  have ru := r.units
  exact repr_of_reads' rd (by decide +kernel) (fun _ => hns) g (by show X.A.units + (_ + 1) < _; have : (PyData.list [.dict [], .dict []]).depth ≤ 32 := by decide +kernel
                                                                   omega) (fun _ _ e => e) (fun h' u tk k => ⟨.str _, H, I.kept k, ⟨u, rfl⟩, q⟩) (by decide +kernel)
theorem c_repr2 {a : Addr} {d : PyData} {n m : Nat} {H : Hp} {Q : VK} (hd : Dp K H (.ref a) d) (ok : DOk d n) (ln : n ≤ 32) (sh : Shw d m) (lm : m ≤ 10000000) (h : Q (.str d.shown) H) : crRepr2 K [.ref a] H Q := .inl (c_repr hd ok ln sh lm h)
theorem c_reprTwo {a b : Addr} {H : Hp} {Q : VK} (ha : H a = some (.lst [.ref b, .ref b])) (hb : H b = some (.dK [])) (ne : a ≠ sysModules) (h : Q (.str (PyData.list [.dict [], .dict []]).shown) H) : crRepr2 K [.ref a] H Q := .inr ⟨a, b, rfl, ha, hb, ne, h⟩
end
end Und
namespace Und
open PySem PySem.Spec PyProof.Rows L2
/-! ### isinstance of an error, by its place in the list of classes -/
section
variable {K : PySem.W.Frag} {C D : Addr} {refs : List Addr} {newId : String} {bmB : List Value}
/-- a class written in a module -/
structure ClsX (K : PySem.W.Frag) (D : Addr) : Prop where
  i : (PySem.W.clsIn K D).isSome = true
  t : PySem.W.typeIn K (.ref D) = some (.type "type")
theorem ErrC.clsx (T : ErrC K C refs newId bmB) : ClsX K C := by
  obtain ⟨cd, h, _⟩ := T.cd
  exact ⟨by rw [h]; rfl, T.tyC⟩
theorem refs_addr : ∀ l : List Addr, (∀ a, bmB.contains (Value.ref a) = false) → (l.map Value.ref ++ bmB).contains (.ref D) = l.contains D
  | [], h => h D
  | a :: r, h => by
    rw [List.map_cons, List.cons_append, List.contains_cons, List.contains_cons, refs_addr r h]
    have e : (Value.ref D == Value.ref a) = (D == a) := by
      rw [Bool.eq_iff_iff, beq_iff_eq, beq_iff_eq]
      exact ⟨Value.ref.inj, congrArg _⟩
    rw [e]
theorem ErrC.kit (T : ErrC K C refs newId bmB) (h : ∀ a, bmB.contains (Value.ref a) = false) (cx : ClsX K D) : PySem.W.kitOne K (.ref C) (.ref D) = some (decide (D = C) || refs.contains D) := by
  show (if (Value.ref C == Value.ref D) = true then some true else if ((PySem.W.clsIn K D).isSome && PySem.W.typeIn K (.ref D) == some (.type "type")) = true then PySem.W.subIn K (.ref C) (.ref D) else none) = _
  rw [cx.i, cx.t]
  by_cases e : D = C
  · subst e
    rw [if_pos (by simp)]
    simp
  · have e1 : (Value.ref C == Value.ref D) = false := beq_eq_false_iff_ne.mpr fun z => e (Value.ref.inj z).symm
    have e2 : (Value.ref D == Value.ref C) = false := beq_eq_false_iff_ne.mpr fun z => e (Value.ref.inj z)
    rw [if_neg (by rw [e1]; decide), if_pos (by rfl)]
    show PySem.W.mroIn K C _ = _
    rw [T.mro, List.contains_cons, refs_addr refs h, e2, decide_eq_false e]
theorem ErrC.kitT (T : ErrC K C refs newId bmB) {b : String} (hm : PySem.W.kitMeta b = true) : PySem.W.kitOne K (.ref C) (.type b) = some (bmB.contains (.type b)) := by
  show (if (Value.ref C == Value.type b) = true then some true else if PySem.W.kitMeta b = true then PySem.W.subIn K (.ref C) (.type b) else none) = _
  rw [if_neg (by intro z; cases (beq_iff_eq.mp z)), if_pos hm]
  show PySem.W.mroIn K C _ = _
  rw [T.mro, List.contains_cons, refs_has]
  rfl
/-- which base the error class at this place has -/
def bsI (j : Nat) : Nat := if j < 14 then 17 else if j < 16 then 18 else 19
/-- the class C stands at j among the classes L -/
structure ErrK (K : PySem.W.Frag) (L : List Addr) (C : Addr) (j : Nat) : Prop where
  e : ∃ refs B newId initId bmB, ErrC K C refs newId bmB ∧ Fam B newId initId bmB
  lt : j < 17
  k : ∀ (i : Nat) (D : Addr), i < 17 → L[i]? = some D → PySem.W.kitOne K (.ref C) (.ref D) = some (decide (i = j))
  b : ∀ (i : Nat) (D : Addr), 17 ≤ i → L[i]? = some D → PySem.W.kitOne K (.ref C) (.ref D) = some (decide (i = bsI j))
  c : ∀ (i : Nat) (D : Addr), 17 ≤ i → L[i]? = some D → PySem.W.kitCls K (.ref C) (.ref D) = some (decide (i = bsI j))
  v : PySem.W.kitOne K (.ref C) (.type "ValueError") = some (decide (17 = bsI j))
  l : PySem.W.kitOne K (.ref C) (.type "LookupError") = some (decide (18 = bsI j))
  a : PySem.W.kitOne K (.ref C) (.type "ArithmeticError") = some (decide (19 = bsI j))
theorem errK {L : List Addr} {j : Nat} {B newId initId : String} {Bs : Addr} (nd : L.Nodup) (T : ErrC K C [Bs] newId bmB) (m : Fam B newId initId bmB) (h : ∀ a, bmB.contains (Value.ref a) = false) (hj : j < 17) (hC : L[j]? = some C) (hB : L[bsI j]? = some Bs)
    (cx : ∀ (i : Nat) (D : Addr), L[i]? = some D → ClsX K D) (v : bmB.contains (.type "ValueError") = decide (17 = bsI j)) (l : bmB.contains (.type "LookupError") = decide (18 = bsI j)) (a : bmB.contains (.type "ArithmeticError") = decide (19 = bsI j)) : ErrK K L C j := by
  have inj : ∀ {i k : Nat} {x : Addr}, L[i]? = some x → L[k]? = some x → i = k := fun {i k x} e1 e2 => by
    obtain ⟨h1, r1⟩ := List.getElem?_eq_some_iff.mp e1
    obtain ⟨h2, r2⟩ := List.getElem?_eq_some_iff.mp e2
    have pw := List.pairwise_iff_getElem.mp nd
    rcases Nat.lt_trichotomy i k with z | z | z
    · exact (pw i k h1 h2 z (r1.trans r2.symm)).elim
    · exact z
    · exact (pw k i h2 h1 z (r2.trans r1.symm)).elim
  have hb : 17 ≤ bsI j := by
    unfold bsI
    split
    · omega
    · split <;> omega
  have key : ∀ i D, L[i]? = some D → PySem.W.kitOne K (.ref C) (.ref D) = some (decide (i = j) || decide (i = bsI j)) := fun i D e => by
    rw [T.kit h (cx i D e)]
    have e1 : (D = C) = (i = j) := propext ⟨fun z => inj e (z ▸ hC), fun z => Option.some.inj ((z ▸ e).symm.trans hC)⟩
    have e2 : [Bs].contains D = decide (i = bsI j) := by
      rw [List.contains_cons, List.contains_nil, Bool.or_false]
      have e3 : (D = Bs) = (i = bsI j) := propext ⟨fun z => inj e (z ▸ hB), fun z => Option.some.inj ((z ▸ e).symm.trans hB)⟩
      show decide (D = Bs) = _
      simp only [e3]
    rw [e2]
    simp only [e1]
  refine ⟨⟨_, _, _, _, _, T, m⟩, hj, fun i D hi e => ?_, fun i D hi e => ?_, fun i D hi e => ?_, (T.kitT (by decide +kernel)).trans (congrArg some v), (T.kitT (by decide +kernel)).trans (congrArg some l), (T.kitT (by decide +kernel)).trans (congrArg some a)⟩
  · rw [key i D e, decide_eq_false (p := i = bsI j) (by omega), Bool.or_false]
  · rw [key i D e, decide_eq_false (p := i = j) (by omega), Bool.false_or]
  · have h1 := key i D e
    rw [decide_eq_false (p := i = j) (by omega), Bool.false_or] at h1
    have ne : (Value.ref C == Value.ref D) = false := beq_eq_false_iff_ne.mpr fun z => by
      have z' := Value.ref.inj z
      rw [← z'] at e
      have := inj e hC
      omega
    unfold PySem.W.kitOne at h1
    rw [ne, if_neg Bool.false_ne_true] at h1
    exact h1
end
end Und
/-! errors that are raised and caught -/
namespace Und
open PySem PySem.Spec PyProof.Rows L2 PySem.HandSPX
open L2H (RoomH)
/-! ### what may leave a body -/
section
variable {X : Cx} {E : XK} {E₁ : Value → Shared → Prop}
theorem takesE (hs : X.stack = X.env :: X.outer) (hf : X.env.frame = some X.env.locals) (hex : X.ex = []) (hx : X.xe = fun e s' => wpAny (model X.prog X.w) X.A (leaving X.env e) (fun _ s'' => L2.CX X.prog X.w X.outer X.H_0 X.s_0 E e s'') E₁ s') :
    Takes X (fun c d _ H => E c d H) := takes_of hs hf hex hx
theorem passT {W : WX} (tk : Takes X W) (h : ∀ c d σ H, E c d H → W c d σ H) : Passes (L2.CX X.prog X.w) X E := fun p σ H s e s' I c => passes_call tk h p σ H s e s' I c
theorem passX (hs : X.stack = X.env :: X.outer := by rfl) (hf : X.env.frame = some X.env.locals := by rfl) (hex : X.ex = [] := by rfl)
    (hx : X.xe = fun e s' => wpAny (model X.prog X.w) X.A (leaving X.env e) (fun _ s'' => L2.CX X.prog X.w X.outer X.H_0 X.s_0 E e s'') E₁ s' := by rfl) : Passes (L2.CX X.prog X.w) X E := passT (takesE hs hf hex hx) fun _ _ _ _ h => h
end
/-! ### raise C(v) -/
/-- C(v) is raised: its dict is new, and holds v -/
def Rsd (C : Addr) (f : Str) (v : V) (H : Hp) (E : XK) : Prop := ∀ d H', H d = none → Same H H' → H' d = some (.xd [(f, v)]) → E (.ref C) (some d) H'
def rMkX (C : Addr) (f : Str) (vs : List V) (H : Hp) (E : XK) : Prop := ∃ v, vs = [v] ∧ Rsd C f v H E
def tMkX (C : Addr) (f : Str) (t : TA) : L2.St → Hp → XK → Prop := fun σ H E => t σ H fun vs H1 => rMkX C f vs H1 E
section
variable {X : Cx} {C fI : Addr} {refs : List Addr} {B newId initId : String} {bmB : List Value} {k : Nat} {fd : FuncData} {ps : List Str} {f x : Str} {e : Expr} {t : TA} {p pos : Pos}
theorem pmk_E (T : ErrC X.K C refs newId bmB) (m : Fam B newId initId bmB) (W : ErrI X.K C fI) (F1 : FnOk X.prog X.w X.K X.mg X.base CX0 k fI fd ps (spErr C f)) (hr : Room (k + 1) X.A) (hb : Binds X.K fd ps []) (hg : Gl X x) (hm : X.mg x = some (.ref C)) (ha : PA X [e] t)
    (hdb : (x == ("__debug__" : Str)) = false := by decide) (he : starEach [e] X.env = (false, eval e X.env) :: starEach [] X.env := by rfl) (hpl : (backTo pos (starEach [] X.env)).any (·.1) = false := by rfl) : PMk X (.Call (.Name x p) [e] [] pos) (tMkX C f t) := by
  intro pins s σ H Q I h
  obtain ⟨nm, q, N, bs, sn, sub, ab, col, dd, k0, k1, k2, k3, k5, hC⟩ := T.cls
  refine wpAny_Call_Name_kw (ld_glob I hg hm ?_ hdb)
  refine PySem.W.callWith_K (h₀ := X.base) I.ok.mod.kin T.kC (thn (ha.run pos pins s σ H _ I h) fun us s1 ⟨vs, H1, I1, r1, v, ev, q1⟩ => ⟨I1.kIn, ?_⟩) he hpl
  subst ev
  obtain ⟨u, rfl, ru⟩ := vals1 r1
  show wpAny _ _ (call (.ref C) [u]) _ _ _
  obtain ⟨hp, g, dr, tk, os⟩ := s1
  have sz1 : hp.objs.size ≤ hp.objs.size + 1 := Nat.le_succ _
  have hn : H1 (hp.objs.size + 1) = none := I1.hok.fresh sz1
  have keep2 : ∀ b o, hp.get? b = some o → ((hp.push (PySem.W.kdv_tup [u])).push (PySem.HandSPX.excO C hp.objs.size)).get? b = some o := fun b o e => Heap.get?_push_of_some _ (Heap.get?_push_of_some _ e)
  have there : ((hp.push (PySem.W.kdv_tup [u])).push (PySem.HandSPX.excO C hp.objs.size)).get? (hp.objs.size + 1) = some (PySem.HandSPX.excO C hp.objs.size) := by heap_get
  have I2 : Inv X pins σ (upd H1 (hp.objs.size + 1) (exo (hp.objs.size + 1) C none)) ⟨(hp.push (PySem.W.kdv_tup [u])).push (PySem.HandSPX.excO C hp.objs.size), g, dr, tk, os⟩ :=
    I1.laid (t' := tk) keep2 sz1 (exo_ok there)
  have r2 : Vals [V.ref (hp.objs.size + 1), v] [Value.ref (hp.objs.size + 1), u] := .cons rfl (.cons ru .nil)
  have hq : spErr C f [V.ref (hp.objs.size + 1), v] (upd H1 (hp.objs.size + 1) (exo (hp.objs.size + 1) C none)) (fun z H2 => z = .non ∧ ∃ dx, H1 dx = none ∧ dx ≠ hp.objs.size + 1 ∧ H2 = upd (upd (upd H1 (hp.objs.size + 1) (exo (hp.objs.size + 1) C none)) dx (exd dx [(f, v)])) (hp.objs.size + 1) (exo (hp.objs.size + 1) C (some dx))) (fun _ _ _ => False) :=
    ⟨_, v, rfl, upd_same, fun dx n ne => ⟨rfl, dx, by rw [upd_ne ne] at n; exact n, ne, rfl⟩⟩
  have hl := F1.len _ _ _ _ hq
  refine wpAny_call (PySem.HandSPX.call_own m.F (fun Y => refs_has Y refs) (I1.kIn _ _ hC) (PySem.W.looks_findIn I1.kIn W.iC) (fun self => PySem.W.bind_fn I1.kIn self W.tI) (by rw [sizeLine_eq]; show 1 ≤ _; decide)
    (codeAny_mono (F1.run _ X.stack _ _ ⟨[Value.ref (hp.objs.size + 1), u], []⟩ [Value.ref (hp.objs.size + 1), u] _ _ (fun _ _ _ => False) (hr.make C [u] []) (I2.env0.make C [u] []) (by
      have z := hb ⟨(hp.push (PySem.W.kdv_tup [u])).push (PySem.HandSPX.excO C hp.objs.size), g, dr, tk, os⟩ [Value.ref (hp.objs.size + 1), u] I2.kIn (by simpa using hl)
      simpa using z) r2 hq) fun r s' hq' => ?_))
  match r, hq' with
  | .error er, hq' => exact (show False from hq').elim
  | .ok (.ret u'), hq' =>
    obtain ⟨z, H2, os2, bare2, un2, hok2, rv, ez, dx, n1, n2, eH⟩ := hq'
    subst ez
    obtain ⟨h2, g2, d2, t2, os'⟩ := s'
    have nd : ∀ {b : Addr} {o : HO}, H1 b = some o → b ≠ dx := fun {b o} e => ne_of_none e n1
    have na : ∀ {b : Addr} {o : HO}, H1 b = some o → b ≠ hp.objs.size + 1 := fun {b o} e => ne_of_none e hn
    refine ⟨rv, mk_end (raises_own (T.exC m) T.tyC) I1 sz1 keep2 un2 hok2 os2 bare2 (by rw [eH, upd_same]) (fs := [(f, v)]) (d := dx) (by rw [eH, upd_ne n2, upd_same]) n1 (q1 dx _ n1 (fun b o e => ?_) upd_same)⟩
    rw [upd_ne (nd e), del_ne (na e), eH, upd_ne (na e), upd_ne (nd e), upd_ne (na e)]
    exact e
  | .ok .next, hq' => exact False.elim hq'
  | .ok .brk, hq' => exact False.elim hq'
  | .ok .cont, hq' => exact False.elim hq'
/-- raise C(v) -/
def tRse (t : L2.St → Hp → XK → Prop) (E : XK) : TS := fun _ σ H => t σ H E
theorem c_rse {E : XK} {D : Ends} {σ : L2.St} {H : Hp} (h : t σ H fun vs H1 => rMkX C f vs H1 E) : tRse (tMkX C f t) E D σ H := h
theorem c_rsd {E : XK} {v : V} {H : Hp} (h : Rsd C f v H E) : rMkX C f [v] H E := ⟨v, rfl, h⟩
theorem ps_rse {E : XK} {t : L2.St → Hp → XK → Prop} {E₁ : Value → Shared → Prop} (he : PMk X e t) (hc : X.calm = true := by rfl) (hs : X.stack = X.env :: X.outer := by rfl) (hf : X.env.frame = some X.env.locals := by rfl) (hex : X.ex = [] := by rfl)
    (hx : X.xe = fun e s' => wpAny (model X.prog X.w) X.A (leaving X.env e) (fun _ s'' => L2.CX X.prog X.w X.outer X.H_0 X.s_0 E e s'') E₁ s' := by rfl) : PS X (.Raise (some e) none pos) (tRse t E) :=
  ps_raise hc (takesE hs hf hex hx) he
end
/-- a promise of either kind -/
theorem FnOk.or {P : Program} {w : World} {K : PySem.W.Frag} {mg : Str → Option Value} {base : Heap} {k : Nat} {f : Addr} {fd : FuncData} {ps : List Str} {sp sp' : Sp} (F : FnOk P w K mg base CX0 k f fd ps sp) (G : FnOk P w K mg base (L2.CX P w) k f fd ps sp') :
    FnOk P w K mg base (L2.CX P w) k f fd ps (fun vs H Q E => sp vs H Q E ∨ sp' vs H Q E) := by
  refine ⟨fun vs H Q E h => h.elim (F.len vs H Q E) (G.len vs H Q E), fun A outer s H args us vs Q E r e0 b v h => ?_⟩
  rcases h with h | h
  · refine codeAny_mono (F.run A outer s H args us vs Q E r e0 b v h) fun z s' q => ?_
    match z, q with
    | .error e, q => exact (show False from q).elim
    | .ok (.ret u), q => exact q
    | .ok .next, q => exact False.elim q
    | .ok .brk, q => exact False.elim q
    | .ok .cont, q => exact False.elim q
  · exact G.run A outer s H args us vs Q E r e0 b v h
/-- .. whose errors are not of interest -/
theorem FnOk.cx {P : Program} {w : World} {K : PySem.W.Frag} {mg : Str → Option Value} {base : Heap} {k : Nat} {f : Addr} {fd : FuncData} {ps : List Str} {sp : Sp} (F : FnOk P w K mg base CX0 k f fd ps sp) : FnOk P w K mg base (L2.CX P w) k f fd ps sp :=
  ⟨F.len, fun A outer s H args us vs Q E r e0 b v h => codeAny_mono (F.run A outer s H args us vs Q E r e0 b v h) fun z s' q => match z, q with
    | .error _, q => (show False from q).elim
    | .ok (.ret _), q => q
    | .ok .next, q => False.elim q
    | .ok .brk, q => False.elim q
    | .ok .cont, q => False.elim q⟩
/-! ### try: .. except (x1, x2, x3) as n: suite -/
theorem flyZ_keeps {B : Heap} {l : List Env} {e : Addr} {Z : Obj → Prop} {h h' : Heap} (F : FlyingZ B l e Z h) (k : ∀ b o, h.get? b = some o → h'.get? b = some o) : FlyingZ B l e Z h' := by
  obtain ⟨f1, f2, f3, oe, vs, T, oT, ts, he, hz, hd, h1, hn, hne, hT, hdT, h3⟩ := F
  exact ⟨fun b o q => k b o (f1 b o q), f2, f3.of_keeps fun b o q _ => ⟨o, k b o q, rfl⟩, oe, vs, T, oT, ts, k _ _ he, hz, hd, h1, hn, hne, k _ _ hT, hdT, h3⟩
/-- the ends of a suite at whose end the slot i is gone -/
def goneD (i : Nat) (D : Ends) : Ends := { nx := fun σ' H' => D.nx (σ'.set i none) H', rt := D.rt, bk := fun σ' H' => D.bk (σ'.set i none) H', ct := fun σ' H' => D.ct (σ'.set i none) H' }
def wT (K : PySem.W.Frag) (cs : List Value) (i n : Nat) (ts : TS) (D : Ends) : WX := fun cls d σ H =>
  PySem.W.exmAny K cls cs = some true ∧ ∀ a oe, σ.length = n → H a = none → oe.cls = cls → oe.dict = d → PySem.W.notCls oe = true → ts (goneD i D) (σ.set i (some (.ref a))) (upd H a (exq a oe))
def tTry (K : PySem.W.Frag) (cs : List Value) (i n : Nat) (tb : WX → TS) (ts : TS) : TS := fun D σ H => tb (wT K cs i n ts D) D σ H
section
variable {X : Cx} {pins : List (Addr × Obj)} {σ : L2.St} {H : Hp} {s : Shared}
/-- the caught error is tracked, where the suite begins -/
theorem suite_in {B : Heap} {a : Addr} {oe : Obj} {sI s' : Shared} (ok : X.Ok) (J : Inv X pins σ H sI) (nb : ∀ b o, sI.heap.get? b = some o → b ∉ frs X.stack → B.get? b = some o) (nB : B.get? a = none) (nF : a ∉ frs X.stack)
    (st : B.StaysIn s'.heap) (up : sI.heap.UpToSlots s'.heap) (os : s'.os = sI.os) (ag : AllBare s'.gens) (he : s'.heap.get? a = some oe) (na : H a = none) : Inv (X.suite a (X.pn ++ pins)) [] σ (upd H a (exq a oe)) s' := by
  obtain ⟨G, g1, g2⟩ := restrict s'.heap fun b => decide (b ≠ a)
  have gk : ∀ b, b ≠ a → G.get? b = s'.heap.get? b := fun b hb => g1 b (decide_eq_true hb)
  have ga : G.get? a = none := g2 a (by simp)
  have nI : sI.heap.get? a = none := by
    cases q : sI.heap.get? a with
    | none => rfl
    | some o =>
      have z := nb a o q nF
      rw [nB] at z
      cases z
  have stG : B.StaysIn G := fun b o e => by
    have hb : b ≠ a := fun z => by
      rw [z, nB] at e
      cases e
    rw [gk b hb]
    exact st b o e
  have upG : sI.heap.UpToSlots G := fun b o e hd => by
    have hb : b ≠ a := fun z => by
      rw [z, nI] at e
      cases e
    rw [gk b hb]
    exact up b o e hd
  have J1 : Inv X pins σ H ⟨G, s'.gens, s'.drawn, s'.toks, s'.os⟩ := J.landed (s' := ⟨G, s'.gens, s'.drawn, s'.toks, s'.os⟩) nb stG upG os ag
  have J2 : Inv X pins σ (upd H a (exq a oe)) s' := J1.laidN (t' := s'.toks) (h' := s'.heap) (fun b o e => by
    have hb : b ≠ a := fun z => by
      rw [z, ga] at e
      cases e
    rw [← gk b hb]
    exact e) ga na (exq_ok he)
  exact ⟨ok.suite _ _, J2.os, J2.bare, J2.base, J2.loc, J2.cell, J2.free, J2.freeC, fun p hp => J2.pin p (by rw [List.append_nil] at hp; exact hp), J2.hok, J2.len⟩
theorem suite_out {a : Addr} {pn' : List (Addr × Obj)} (I : Inv (X.suite a (X.pn ++ pins)) pn' σ H s) (ok : X.Ok) : Inv X pins σ H s :=
  ⟨ok, I.os, I.bare, I.base, I.loc, I.cell, I.free, I.freeC, fun p hp => I.pin p (List.mem_append_left _ hp), I.hok, I.len⟩
end
section
variable {X : Cx} {x1 x2 x3 n : Str} {c1 c2 c3 : Value} {i kk : Nat} {body suite : List Stmt} {b₀ : Stmt} {p1 p2 p3 tp pos pos' : Pos} {tb : WX → TS} {ts : TS}
theorem ps_tryT (hs : X.stack = X.env :: X.outer) (hf : X.env.frame = some X.env.locals) (hN : X.N.Nodup) (hi : X.N[i]? = some n) (hln : X.env.kindOf n = some .local) (n1 : Names X x1 c1) (n2 : Names X x2 c2) (n3 : Names X x3 c3)
    (hb : ∀ (W : WX) (pn : List (Addr × Obj)) (xe : Value → Shared → Prop), Takes (X.tr pn xe) W → PSs (X.tr pn xe) body (tb W)) (hsu : ∀ (a : Addr) (pn : List (Addr × Obj)), PSs (X.suite a pn) (b₀ :: suite) ts) :
    PS X (.Try body [.ExceptHandler (some (.Tuple [.Name x1 p1, .Name x2 p2, .Name x3 p3] kk tp)) (some n) (b₀ :: suite) pos'] [] [] pos) (tTry X.K [c1, c2, c3] i X.N.length tb ts) := by
  refine ⟨fun pins s σ H D I h => ?_⟩
  have ok := I.ok
  have fr2 : X.A.frames = some (X.env :: X.outer) := by rw [ok.frames, hs]
  refine wpAny_Try_except ?_
  refine wpAny_mono ((hb (wT X.K [c1, c2, c3] i X.N.length ts D) (X.pn ++ pins) _ (fun u s' xx => ?_)).run [] s σ H D (I.toTry (fun e s₁ => wpAny (model X.prog X.w) X.A (noteFrame e X.env) (fun _ s₂ => wpAny (model X.prog X.w) X.A (setFlight e none) (fun _ s₃ =>
    wpAny (model X.prog X.w) X.A (handleBy e X.env [.ExceptHandler (some (.Tuple [.Name x1 p1, .Name x2 p2, .Name x3 p3] kk tp)) (some n) (b₀ :: suite) pos']) (SP X pins D) X.xe s₃) X.xe s₂) X.xe s₁)) h) (fun f s1 hsp => ?_) (fun e s1 he => he)
  · obtain ⟨a, B, sI, pins', σ', H', cls, d, rfl, J', nb, up, sky, na, os, ag, ex, hyes⟩ := xx
    have J : Inv X pins σ' H' sI := J'.ofTry ok
    have sky' : Sky B (X.env :: X.outer) a (Zc cls d) X.env.locals s'.heap := by rw [← hs]; exact sky
    show wpAny (model X.prog X.w) X.A (noteFrame (.ref a) X.env) _ _ _
    refine Sky.land Zc.steady fr2 hf sky' fun h3 fl3 up3 => ?_
    have J3 : Inv X pins σ' H' ⟨h3, s'.gens, s'.drawn, s'.toks, s'.os⟩ := J.landed (s' := ⟨h3, s'.gens, s'.drawn, s'.toks, s'.os⟩) nb fl3.1 (up.trans up3) os ag
    obtain ⟨oe3, vs3, he3, hz3, hd3⟩ := fl3.there
    have nfr : a ∉ frs (X.env :: X.outer) := fun hm => by
      obtain ⟨_, o', e', hnf⟩ := fl3.2.2.1.mem hm
      rw [he3] at e'
      cases e'
      exact hnf _ hd3
    have nL : a ≠ X.env.locals := fun z => nfr (List.mem_filterMap.mpr ⟨X.env, List.mem_cons_self, by rw [hf, z]⟩)
    have nF : a ∉ X.fs := fun hm => by
      obtain ⟨e, he, q⟩ := List.mem_filterMap.mp hm
      exact nfr (List.mem_filterMap.mpr ⟨e, List.mem_cons_of_mem _ he, q⟩)
    have nfr' : a ∉ frs X.stack := by
      rw [hs]
      exact nfr
    have S3 := J3.suite he3 hd3 na nL nF
    refine wpAny_handleBy_cons (codeAny_handlers_test ?_) (by intro q; cases q)
    have LT : PySem.W.Looks (model X.prog X.w) h3 (typeOf (.ref a)) cls := fun A Q E s k q => wpAny_typeOf_ref (k _ _ he3) (by rw [hz3.1]; exact q)
    have name : ∀ {x : Str} {c : Value} {np : Pos} {Q : Value → Shared → Prop} {E : Value → Shared → Prop}, Names X x c → Q c ⟨h3, s'.gens, s'.drawn, s'.toks, s'.os⟩ → wpAny (model X.prog X.w) (X.A.mark (some (.ref a))) (eval (.Name x np) X.env) Q E ⟨h3, s'.gens, s'.drawn, s'.toks, s'.os⟩ := fun {x c np Q E} hc q => by
      obtain ⟨hg, hdbg, hm | ⟨hm, hv, hnn⟩⟩ := hc
      · exact ld_glob (X := X.suite a ((a, oe3) :: (X.pn ++ pins))) S3 hg hm q hdbg
      · exact ld_blt (X := X.suite a ((a, oe3) :: (X.pn ++ pins))) S3 hg hm hv q hnn hdbg
    refine wpAny_Tuple (wpAny_items_cons (name n1 (wpAny_items_cons (name n2 (wpAny_items_cons (name n3 (wpAny_items_nil ⟨by size_fits, ?_⟩)))))))
    have kp : ∀ b o, h3.get? b = some o → (h3.push { cls := .type "tuple", data := .seq [c1, c2, c3].toArray }).get? b = some o := fun _ _ z => Heap.get?_push_of_some _ z
    have fl3' := flyZ_keeps fl3 kp
    have up3' : h3.UpToSlots (h3.push { cls := .type "tuple", data := .seq [c1, c2, c3].toArray }) := Heap.UpToSlots.of_keeps kp
    refine (PySem.W.exm_tup3 (J3.kIn.keeps kp) (LT.keeps kp) (Heap.get?_push_size h3 rfl) ex).here ?_
    refine codeAny_handlers_suite_as ?_
    refine HandSPX.lands_againZ fl3' fun h4 fl4 up4 => ?_
    obtain ⟨oe4, vs4, he4, hz4, hd4⟩ := fl4.there
    have S4 := suite_in (s' := ⟨h4, s'.gens, s'.drawn, s'.toks, s'.os⟩) ok J nb fl3.2.1 nfr' fl4.1 (((up.trans up3).trans up3').trans up4) os ag he4 na
    refine store_ok (X := X.suite a (X.pn ++ pins)) (v := .ref a) S4 hN hi (.inl hln) rfl (fun s5 S5 => ?_) (.inr hln)
    refine wpAny_mono ((hsu a (X.pn ++ pins)).run [] s5 _ _ _ S5 (hyes a oe4 J.len na hz4.1 hz4.2 (by unfold PySem.W.notCls; rw [hd4]))) (fun f s6 hsp => ?_) (fun _ _ z => False.elim z)
    have end_ : ∀ {σ6 : L2.St} {H6 : Hp} {Q : Shared → Prop}, Inv (X.suite a (X.pn ++ pins)) [] σ6 H6 s6 → (∀ s7, Inv X pins (σ6.set i none) H6 s7 → Q s7) →
        wpAny (model X.prog X.w) X.A (do bindName X.env n .none; unbindBehindTheSuite X.env n pos') (fun _ s7 => Q s7) X.xe s6 := fun {σ6 H6 Q} S6 hq => gone_ok (suite_out S6 ok) hN hi hln hq
    match f, hsp with
    | .next, ⟨σ6, H6, S6, q6⟩ => exact end_ S6 fun s7 J7 => ⟨_, _, J7, q6⟩
    | .brk, ⟨σ6, H6, S6, q6⟩ => exact end_ S6 fun s7 J7 => ⟨_, _, J7, q6⟩
    | .cont, ⟨σ6, H6, S6, q6⟩ => exact end_ S6 fun s7 J7 => ⟨_, _, J7, q6⟩
    | .ret u, ⟨v6, σ6, H6, S6, r6, q6⟩ => exact end_ S6 fun s7 J7 => ⟨_, _, _, J7, r6, q6⟩
  · match f, hsp with
    | .next, ⟨σ', H', J', q⟩ => exact wpAny_execs_nil ⟨σ', H', J'.ofTry ok, q⟩
    | .brk, ⟨σ', H', J', q⟩ => exact ⟨σ', H', J'.ofTry ok, q⟩
    | .cont, ⟨σ', H', J', q⟩ => exact ⟨σ', H', J'.ofTry ok, q⟩
    | .ret u, ⟨v, σ', H', J', r, q⟩ => exact ⟨v, σ', H', J'.ofTry ok, r, q⟩
end
end Und
/-! texts: what split, partition, startswith, endswith and int make of joined parts -/
namespace Und
open PySem PySem.StrLaws Builtin Builtin.Str
/-- the signs of parts with two signs between -/
def jc (a b : Nat) : List Str → List Nat
  | [] => []
  | x :: r => x.cps.toList ++ (match r with
    | [] => []
    | _ :: _ => a :: b :: jc a b r)
theorem jc_one (a b : Nat) (x : Str) : jc a b [x] = x.cps.toList := by
  show x.cps.toList ++ [] = _
  rw [List.append_nil]
theorem jc_cons (a b : Nat) (x y : Str) (r : List Str) : jc a b (x :: y :: r) = x.cps.toList ++ a :: b :: jc a b (y :: r) := rfl
theorem join_codes (a b : Nat) : ∀ xs : List Str, (Str.join ⟨#[a, b]⟩ xs).cps.toList = jc a b xs
  | [] => rfl
  | [x] => (jc_one a b x).symm
  | x :: y :: r => by
    show ((x ++ ⟨#[a, b]⟩) ++ Str.join ⟨#[a, b]⟩ (y :: r) : Str).cps.toList = _
    rw [PySem.Str.cps_append, PySem.Str.cps_append, Array.toList_append, Array.toList_append, join_codes a b (y :: r), jc_cons]
    simp
theorem join_codes' (a b : Nat) (xs : List Str) : (Txt.join ⟨#[a, b]⟩ xs).cps.toList = jc a b xs := by
  rw [← join_codes, ← glued_eq_join]
  rfl
theorem at_iff {x : Str} {a b k : Nat} : At x ⟨#[a, b]⟩ x.length k ↔ (x.cps.toList.drop k).take 2 = [a, b] := by
  have hl : x.cps.toList.length = x.length := Array.length_toList
  unfold At
  rw [subAt_eq]
  constructor
  · rintro ⟨_, h⟩
    exact eq_of_beq h
  · intro h
    have h2 := congrArg List.length h
    rw [List.length_take, List.length_drop, hl] at h2
    refine ⟨?_, ?_⟩
    · show k + 2 ≤ x.length
      simp at h2
      omega
    · show ((x.cps.toList.drop k).take 2 == [a, b]) = true
      rw [h]
      simp
theorem drop_more {l m : List Nat} {k : Nat} (h : l.drop k = m) (j : Nat) : l.drop (k + j) = m.drop j := by
  rw [← h, List.drop_drop]
/-- where the pieces are joined the cuts are the joints -/
theorem parts_of (a b : Nat) (x : Str) : ∀ (cuts : List Nat) (p : Str) (ps : List Str) (k f : Nat), x.cps.toList.drop k = jc a b (p :: ps) → (∀ z ∈ p :: ps, a ∉ z.cps.toList) → ChainG x ⟨#[a, b]⟩ x.length k cuts f → (∀ j, f ≤ j → ¬ At x ⟨#[a, b]⟩ x.length j) → partsFrom x 2 k cuts = p :: ps
  | [], p, ps, k, f, hd, hz, hc, hn => by
    have hl : x.cps.toList.length = x.length := Array.length_toList
    have e : f = k := hc
    subst e
    cases ps with
    | nil =>
      rw [jc_one] at hd
      show [strSub x f x.length] = [p]
      congr 1
      refine PySem.Str.ext' (Array.toList_inj.mp ?_)
      rw [strSub_toList, hd, List.take_of_length_le]
      have := congrArg List.length hd
      rw [List.length_drop, hl] at this
      omega
    | cons q qs =>
      exfalso
      refine hn (f + p.cps.toList.length) (by omega) (at_iff.mpr ?_)
      rw [drop_more hd, jc_cons, List.drop_left]
      rfl
  | c :: r, p, ps, k, f, hd, hz, hc, hn => by
    have hl : x.cps.toList.length = x.length := Array.length_toList
    obtain ⟨h1, h2, h3, h4⟩ := hc
    obtain ⟨d, rfl⟩ : ∃ d, c = k + d := ⟨c - k, by omega⟩
    have hA := at_iff.mp h2
    rw [drop_more hd] at hA
    have hp := hz p List.mem_cons_self
    -- a sign of the first part is no joint
    have hge : ¬ d < p.cps.toList.length := fun hlt => by
      have : (p.cps.toList.drop d).head? = some a := by
        cases ps with
        | nil =>
          rw [jc_one] at hA
          cases e : p.cps.toList.drop d with
          | nil => rw [e] at hA; cases hA
          | cons u v =>
            rw [e] at hA
            have := List.cons.inj hA
            rw [this.1]
            rfl
        | cons q qs =>
          rw [jc_cons, List.drop_append_of_le_length (by omega)] at hA
          cases e : p.cps.toList.drop d with
          | nil =>
            have := congrArg List.length e
            rw [List.length_drop] at this
            simp at this
            simp at hlt
            omega
          | cons u v =>
            rw [e] at hA
            have := List.cons.inj hA
            rw [this.1]
            rfl
      exact hp (List.mem_of_mem_drop (List.mem_of_mem_head? (by rw [this]; rfl)))
    cases ps with
    | nil =>
      exfalso
      rw [jc_one, List.drop_eq_nil_of_le (by omega)] at hA
      cases hA
    | cons q qs =>
      have hd' : d = p.cps.toList.length := by
        by_cases hgt : p.cps.toList.length < d
        · exfalso
          refine h3 (k + p.cps.toList.length) (by omega) (by omega) (at_iff.mpr ?_)
          rw [drop_more hd, jc_cons, List.drop_left]
          rfl
        · omega
      subst hd'
      have e1 : strSub x k (k + p.cps.toList.length) = p := by
        refine PySem.Str.ext' (Array.toList_inj.mp ?_)
        rw [strSub_toList, hd, jc_cons, show k + p.cps.toList.length - k = p.cps.toList.length from by omega, List.take_left]
      show strSub x k (k + p.cps.toList.length) :: partsFrom x 2 (k + p.cps.toList.length + 2) r = p :: q :: qs
      rw [e1]
      congr 1
      refine parts_of a b x r q qs _ f ?_ (fun z h => hz z (List.mem_cons_of_mem _ h)) h4 hn
      rw [Nat.add_assoc, drop_more hd, jc_cons, ← List.drop_drop, List.drop_left]
      rfl
theorem kind_low (x y : Str) (h : y.cps.all (· < 256) = true) : decide (Builtin.Str.strKind x < Builtin.Str.strKind y) = false := by
  refine decide_eq_false ?_
  unfold Builtin.Str.strKind
  rw [if_pos h]
  split
  · omega
  · split <;> omega
theorem split_join {a b : Nat} (ha : a < 256) (hb : b < 256) (p : Str) (ps : List Str) (hz : ∀ z ∈ p :: ps, a ∉ z.cps.toList) : Txt.split (Txt.join ⟨#[a, b]⟩ (p :: ps)) ⟨#[a, b]⟩ = p :: ps := by
  have hcodes := join_codes' a b (p :: ps)
  generalize hx : Txt.join ⟨#[a, b]⟩ (p :: ps) = x at *
  have hl : x.cps.toList.length = x.length := Array.length_toList
  obtain ⟨f, hc, hn⟩ := occ_tight x ⟨#[a, b]⟩ (by show 1 ≤ 2; omega)
  have key := parts_of a b x _ p ps 0 f (by rw [List.drop_zero]; exact hcodes) hz hc hn
  have e0 : partsFrom x 2 0 [] = [x] := by
    show [strSub x 0 x.length] = [x]
    rw [sub_whole]
  have hk : decide (Builtin.Str.strKind x < Builtin.Str.strKind ⟨#[a, b]⟩) = false := kind_low x _ (by simp [ha, hb])
  unfold Txt.split
  rw [hk, Bool.or_false]
  by_cases h1 : x.length < 2
  · rw [if_pos (decide_eq_true (show x.length < (⟨#[a, b]⟩ : Str).length from h1))]
    cases ps with
    | nil =>
      rw [jc_one] at hcodes
      have : x = p := PySem.Str.ext' (Array.toList_inj.mp hcodes)
      rw [this]
    | cons q qs =>
      exfalso
      have := congrArg List.length hcodes
      rw [jc_cons, List.length_append, hl] at this
      simp at this
      omega
  · rw [if_neg (by
      rw [decide_eq_true_eq]
      exact h1)]
    split
    · rename_i he
      rw [List.isEmpty_iff.mp he] at key
      rw [← key, e0]
    · rw [partsBetween_eq]
      exact key
end Und
/-! places in a line: what moves and repeats of moves make of them -/
namespace Und
/-- so many of the available items move -/
def mvN (am : Option Int) (n : Nat) : Nat := match am with
  | none => n
  | some m => min m.toNat n
abbrev Mv := Bool × Option Int
def mvP (n p : Nat) (m : Mv) : Nat := if m.1 = true then p - mvN m.2 p else p + mvN m.2 (n - p)
def stP (n p : Nat) (ms : List Mv) : Nat := ms.foldl (mvP n) p
def itP (n : Nat) (ms : List Mv) : Nat → Nat → Nat
  | 0, p => p
  | k + 1, p => itP n ms k (stP n p ms)
theorem mvN_le (am : Option Int) (n : Nat) : mvN am n ≤ n := by
  unfold mvN
  split
  · exact Nat.le_refl _
  · exact Nat.min_le_right _ _
theorem mvP_le {n p : Nat} (m : Mv) (h : p ≤ n) : mvP n p m ≤ n := by
  unfold mvP
  split
  · omega
  · have := mvN_le m.2 (n - p)
    omega
theorem stP_le {n : Nat} : ∀ (ms : List Mv) {p : Nat}, p ≤ n → stP n p ms ≤ n
  | [], _, h => h
  | m :: ms, _, h => stP_le ms (mvP_le m h)
theorem itP_le {n : Nat} {ms : List Mv} : ∀ (k : Nat) {p : Nat}, p ≤ n → itP n ms k p ≤ n
  | 0, _, h => h
  | k + 1, _, h => itP_le k (stP_le ms h)
theorem stP_app (n p : Nat) (as bs : List Mv) : stP n p (as ++ bs) = stP n (stP n p as) bs := List.foldl_append
theorem itP_add (n : Nat) (ms : List Mv) : ∀ (a b p : Nat), itP n ms b (itP n ms a p) = itP n ms (a + b) p
  | 0, b, p => by rw [Nat.zero_add]; rfl
  | a + 1, b, p => by
    rw [show a + 1 + b = (a + b) + 1 from by omega]
    exact itP_add n ms a b (stP n p ms)
theorem itP_one (n : Nat) (ms : List Mv) (p : Nat) : itP n ms 1 p = stP n p ms := rfl
theorem itP_succ' (n : Nat) (ms : List Mv) (k p : Nat) : itP n ms (k + 1) p = stP n (itP n ms k p) ms := by
  rw [← itP_add n ms k 1 p]
  rfl
theorem itP_twice (n : Nat) (ms : List Mv) : ∀ (k p : Nat), itP n (ms ++ ms) k p = itP n ms (2 * k) p
  | 0, _ => rfl
  | k + 1, p => by
    rw [show 2 * (k + 1) = (2 * k) + 1 + 1 from by omega]
    show itP n (ms ++ ms) k (stP n p (ms ++ ms)) = itP n ms (2 * k) (stP n (stP n p ms) ms)
    rw [stP_app]
    exact itP_twice n ms k _
/-! ### one round is a shift between two ends -/
def mvS (n : Nat) (m : Mv) : Int := if m.1 = true then -(mvN m.2 n : Int) else (mvN m.2 n : Int)
def stS (n : Nat) (ms : List Mv) : Int := (ms.map (mvS n)).sum
theorem mvP_at {n p : Nat} (m : Mv) (h : p ≤ n) : (mvP n p m : Int) = if m.1 = true then max 0 ((p : Int) - mvN m.2 n) else min (n : Int) ((p : Int) + mvN m.2 n) := by
  unfold mvP
  cases m with
  | mk b am =>
    cases am with
    | none => cases b <;> simp [mvN] <;> omega
    | some a => cases b <;> simp [mvN] <;> omega
theorem mvP_mono {n p q : Nat} (m : Mv) (h : p ≤ q) (hq : q ≤ n) : mvP n p m ≤ mvP n q m := by
  have h1 := mvP_at m (Nat.le_trans h hq)
  have h2 := mvP_at m hq
  split at h1
  · rw [if_pos (by assumption)] at h2
    omega
  · rw [if_neg (by assumption)] at h2
    omega
theorem stP_mono {n : Nat} : ∀ (ms : List Mv) {p q : Nat}, p ≤ q → q ≤ n → stP n p ms ≤ stP n q ms
  | [], _, _, h, _ => h
  | m :: ms, _, _, h, hq => stP_mono ms (mvP_mono m h hq) (mvP_le m hq)
theorem stP_shift {n : Nat} : ∀ (ms : List Mv) {p : Nat}, p ≤ n → (stP n p ms : Int) = max (stP n 0 ms : Int) (min (stP n n ms : Int) ((p : Int) + stS n ms))
  | [], p, h => by
    show (p : Int) = max ((0 : Nat) : Int) (min (n : Int) ((p : Int) + 0))
    omega
  | m :: ms, p, h => by
    have e0 := stP_shift ms (mvP_le m (Nat.zero_le n))
    have en := stP_shift ms (mvP_le m (Nat.le_refl n))
    have ep := stP_shift ms (mvP_le m h)
    have f0 := stP_shift ms (Nat.zero_le n)
    have fn := stP_shift ms (Nat.le_refl n)
    have lo := stP_mono ms (Nat.zero_le n) (Nat.le_refl n)
    have g0 := mvP_at m (Nat.zero_le n)
    have gn := mvP_at m (Nat.le_refl n)
    have gp := mvP_at m h
    have hs : stS n (m :: ms) = mvS n m + stS n ms := by
      unfold stS
      rw [List.map_cons, List.sum_cons]
    show (stP n (mvP n p m) ms : Int) = max (stP n (mvP n 0 m) ms : Int) (min (stP n (mvP n n m) ms : Int) ((p : Int) + stS n (m :: ms)))
    rw [hs]
    have hm := mvN_le m.2 n
    unfold mvS
    split at g0
    · rw [if_pos (by assumption)] at gn gp ⊢
      omega
    · rw [if_neg (by assumption)] at gn gp ⊢
      omega
theorem itP_shift {n : Nat} (ms : List Mv) {p : Nat} (h : p ≤ n) : ∀ k : Nat, (itP n ms (k + 1) p : Int) = max (stP n 0 ms : Int) (min (stP n n ms : Int) ((stP n p ms : Int) + (k : Int) * stS n ms))
  | 0 => by
    rw [itP_one]
    have a := stP_mono ms (Nat.zero_le p) h
    have b := stP_mono ms h (Nat.le_refl n)
    simp only [Int.ofNat_zero, Int.zero_mul, Int.add_zero]
    omega
  | k + 1 => by
    have ih := itP_shift ms h k
    rw [itP_succ']
    have e := stP_shift ms (itP_le (ms := ms) (k + 1) h)
    rw [e, ih]
    have a := stP_mono ms (Nat.zero_le p) h
    have b := stP_mono ms h (Nat.le_refl n)
    have hk : ((k + 1 : Nat) : Int) * stS n ms = (k : Int) * stS n ms + stS n ms := by
      rw [Int.natCast_add, Int.add_mul]
      simp
    rw [hk]
    have s1 : 0 ≤ stS n ms → 0 ≤ (k : Int) * stS n ms := fun z => Int.mul_nonneg (Int.natCast_nonneg k) z
    have s2 : stS n ms ≤ 0 → (k : Int) * stS n ms ≤ 0 := fun z => Int.mul_nonpos_of_nonneg_of_nonpos (Int.natCast_nonneg k) z
    generalize (k : Int) * stS n ms = y at *
    generalize stS n ms = s at *
    omega
/-- what the program works out for a repeat -/
theorem itP_calc {n : Nat} (ms : List Mv) {p : Nat} (h : p ≤ n) {t : Int} (ht : 1 ≤ t) : max (stP n 0 ms : Int) (min (stP n n ms : Int) ((stP n p ms : Int) + (t - 1) * stS n ms)) = (itP n ms t.toNat p : Int) := by
  obtain ⟨k, rfl⟩ : ∃ k : Nat, t = (k : Int) + 1 := ⟨(t - 1).toNat, by omega⟩
  rw [show ((k : Int) + 1).toNat = k + 1 from by omega, itP_shift ms h k]
  rw [show (k : Int) + 1 - 1 = (k : Int) from by omega]
theorem itP_fix {n : Nat} {ms : List Mv} {p : Nat} (h : stP n p ms = p) : ∀ k, itP n ms k p = p
  | 0 => rfl
  | k + 1 => by
    show itP n ms k (stP n p ms) = p
    rw [h]
    exact itP_fix h k
/-! ### a place that comes again stays -/
theorem itP_up {n : Nat} {ms : List Mv} {p : Nat} (hp : p ≤ n) (h : p ≤ stP n p ms) : ∀ k, itP n ms k p ≤ itP n ms (k + 1) p
  | 0 => h
  | k + 1 => by
    rw [itP_succ' n ms k p, itP_succ' n ms (k + 1) p]
    exact stP_mono ms (itP_up hp h k) (itP_le _ hp)
theorem itP_down {n : Nat} {ms : List Mv} {p : Nat} (hp : p ≤ n) (h : stP n p ms ≤ p) : ∀ k, itP n ms (k + 1) p ≤ itP n ms k p
  | 0 => h
  | k + 1 => by
    rw [itP_succ' n ms k p, itP_succ' n ms (k + 1) p]
    exact stP_mono ms (itP_down hp h k) (itP_le _ hp)
theorem up_chain {f : Nat → Nat} (h : ∀ k, f k ≤ f (k + 1)) : ∀ {a b : Nat}, a ≤ b → f a ≤ f b := by
  intro a b hab
  induction b with
  | zero =>
    have : a = 0 := by omega
    rw [this]
    exact Nat.le_refl _
  | succ b ih =>
    by_cases e : a = b + 1
    · rw [e]
      exact Nat.le_refl _
    · exact Nat.le_trans (ih (by omega)) (h b)
theorem down_chain {f : Nat → Nat} (h : ∀ k, f (k + 1) ≤ f k) : ∀ {a b : Nat}, a ≤ b → f b ≤ f a := by
  intro a b hab
  induction b with
  | zero =>
    have : a = 0 := by omega
    rw [this]
    exact Nat.le_refl _
  | succ b ih =>
    by_cases e : a = b + 1
    · rw [e]
      exact Nat.le_refl _
    · exact Nat.le_trans (h b) (ih (by omega))
/-- the place after k + 1 rounds was there before: then it is that after k rounds -/
theorem itP_again {n : Nat} {ms : List Mv} {p k j : Nat} (hp : p ≤ n) (hj : j ≤ k) (e : itP n ms (k + 1) p = itP n ms j p) : itP n ms k p = itP n ms (k + 1) p := by
  by_cases h : p ≤ stP n p ms
  · have u := itP_up hp h
    have a := up_chain (f := fun k => itP n ms k p) u hj
    have b := u k
    have a' : itP n ms j p ≤ itP n ms k p := a
    omega
  · have u := itP_down hp (show stP n p ms ≤ p by omega)
    have a := down_chain (f := fun k => itP n ms k p) u hj
    have b := u k
    have a' : itP n ms k p ≤ itP n ms j p := a
    omega
/-- while no place comes again, each round moves on -/
theorem itP_far {n : Nat} {ms : List Mv} {p : Nat} (hp : p ≤ n) : ∀ k : Nat, (∀ i, i < k → itP n ms (i + 1) p ≠ itP n ms i p) → k ≤ n := by
  by_cases h : p ≤ stP n p ms
  · have u := itP_up hp h
    intro k hk
    have : ∀ i, i ≤ k → p + i ≤ itP n ms i p := by
      intro i
      induction i with
      | zero => intro _; exact Nat.le_refl _
      | succ i ih =>
        intro hi
        have a := ih (by omega)
        have b := u i
        have c := hk i (by omega)
        omega
    have a := this k (Nat.le_refl k)
    have b := itP_le (ms := ms) k hp
    omega
  · have u := itP_down hp (show stP n p ms ≤ p by omega)
    intro k hk
    have : ∀ i, i ≤ k → itP n ms i p + i ≤ p := by
      intro i
      induction i with
      | zero => intro _; exact Nat.le_refl _
      | succ i ih =>
        intro hi
        have a := ih (by omega)
        have b := u i
        have c := hk i (by omega)
        omega
    have a := this k (Nat.le_refl k)
    omega
/-! ### commands -/
open PySem in
def wdM (b : Bool) : Str := if b = true then "undo" else "redo"
inductive Cmd where
  | dd (z : PySem.Str)
  | mv (m : Mv)
  | rep (n : Int) (ms : List Mv)
/-- the place after a command that is no do -/
def cmP (n p : Nat) : Cmd → Nat
  | .dd _ => p
  | .mv m => mvP n p m
  | .rep t ms => itP n ms t.toNat p
def runP (n p : Nat) (cs : List Cmd) : Nat := cs.foldl (cmP n) p
theorem cmP_le {n p : Nat} (c : Cmd) (h : p ≤ n) : cmP n p c ≤ n := by
  cases c with
  | dd z => exact h
  | mv m => exact mvP_le m h
  | rep t ms => exact itP_le _ h
theorem runP_le {n : Nat} : ∀ (cs : List Cmd) {p : Nat}, p ≤ n → runP n p cs ≤ n
  | [], _, h => h
  | c :: cs, _, h => runP_le cs (cmP_le c h)
theorem runP_app (n p : Nat) (as bs : List Cmd) : runP n p (as ++ bs) = runP n (runP n p as) bs := List.foldl_append
def NoDo (cs : List Cmd) : Prop := ∀ z, Cmd.dd z ∉ cs
end Und
namespace Und
open PySem PySem.W PySem.StrLaws PySem.NumText PyProof.Rows Builtin Builtin.Str
/-! ### numbers as texts -/
abbrev nt (n : Int) : Str := Str.ofString (toString n)
theorem nt_signs (m : Nat) : (nt (m : Int)).cps.toList = (Nat.toDigits 10 m).map Char.toNat := PySem.W.KIN.signs_num m
theorem nt_dig (m : Nat) : AllDigits (nt (m : Int)).cps.toList := fun c hc => by
  rw [nt_signs] at hc
  obtain ⟨d, hd, rfl⟩ := List.mem_map.mp hc
  exact digit_range (Nat.isDigit_of_mem_toDigits (by decide) (by decide) hd)
/-- the first sign of a number from 1 on is 1 to 9 -/
theorem nt_first : ∀ m : Nat, 1 ≤ m → ∃ c r, (Nat.toDigits 10 m).map Char.toNat = c :: r ∧ 49 ≤ c ∧ c ≤ 57 := by
  intro m
  induction m using Nat.strongRecOn with
  | _ m ih =>
    intro h1
    by_cases h : m < 10
    · rw [Nat.toDigits_of_lt_base h]
      refine ⟨_, [], rfl, ?_⟩
      have t : ∀ d : Nat, d < 10 → 1 ≤ d → 49 ≤ (Nat.digitChar d).toNat ∧ (Nat.digitChar d).toNat ≤ 57 := by decide
      exact t m h h1
    · obtain ⟨c, r, e, hc⟩ := ih (m / 10) (by omega) (by omega)
      have t := Nat.toDigits_append_toDigits (b := 10) (n := m / 10) (d := m % 10) (by decide) (by omega) (Nat.mod_lt m (by decide))
      rw [Nat.div_add_mod] at t
      rw [← t, List.map_append, e]
      exact ⟨c, _, rfl, hc⟩
theorem nt_len {n : Int} (h0 : 0 ≤ n) (h : n < 10 ^ 500) : (nt n).length ≤ 600 := Nat.le_trans (toString_length_le h0 (by decide) h) (by decide)
theorem nt_reads {n : Int} (h0 : 1 ≤ n) (h1 : n < 10 ^ 500) : PySem.intText? (nt n) = some n := by
  have hl := nt_len (by omega) h1
  obtain ⟨m, rfl⟩ : ∃ m : Nat, n = (m : Int) := ⟨n.toNat, by omega⟩
  obtain ⟨c, r, e, _⟩ := nt_first m (by omega)
  have z := intText_digits (nt_dig m) (by rw [nt_signs, e]; exact List.cons_ne_nil _ _) (by omega)
  rw [nt_signs, PySem.W.KIN.val_back] at z
  exact z
theorem nt_fst {n : Int} (h0 : 1 ≤ n) : ∃ c r, (nt n).cps.toList = c :: r ∧ 49 ≤ c ∧ c ≤ 57 := by
  obtain ⟨m, rfl⟩ : ∃ m : Nat, n = (m : Int) := ⟨n.toNat, by omega⟩
  obtain ⟨c, r, e, h⟩ := nt_first m (by omega)
  exact ⟨c, r, (nt_signs m).trans e, h⟩
theorem nt_all {n : Int} (h0 : 0 ≤ n) : ∀ c ∈ (nt n).cps.toList, 48 ≤ c ∧ c ≤ 57 := by
  obtain ⟨m, rfl⟩ : ∃ m : Nat, n = (m : Int) := ⟨n.toNat, by omega⟩
  exact nt_dig m
theorem digit_table : ∀ c < 58, 48 ≤ c → Unicode.isDigit c = true := by decide +kernel
theorem nt_isdigit {n : Int} (h0 : 1 ≤ n) : Txt.isdigit (nt n) = true := by
  obtain ⟨c, r, e, _⟩ := nt_fst h0
  unfold Txt.isdigit
  have hl : (nt n).length > 0 := by
    rw [← len_codes, e]
    exact Nat.succ_pos _
  rw [decide_eq_true hl, Bool.true_and, ← Array.all_toList, List.all_eq_true]
  exact fun d hd => digit_table d (by have := nt_all (by omega : (0 : Int) ≤ n) d hd; omega) (nt_all (by omega) d hd).1
theorem nt_isascii {n : Int} (h0 : 1 ≤ n) : Txt.isascii (nt n) = true := by
  unfold Txt.isascii
  rw [← Array.all_toList, List.all_eq_true]
  exact fun d hd => decide_eq_true (by have := nt_all (by omega : (0 : Int) ≤ n) d hd; omega)
/-! ### cut at the first space -/
theorem one_at {x : Str} {c i : Nat} : At x ⟨#[c]⟩ x.length i ↔ x.cps.toList[i]? = some c := subAt_one x c i
theorem part_at (c : Nat) (a r : Str) (h : c ∉ a.cps.toList) : Txt.partition (a ++ ⟨#[c]⟩ ++ r) ⟨#[c]⟩ = (a, ⟨#[c]⟩, r) := by
  have hc : (a ++ ⟨#[c]⟩ ++ r : Str).cps.toList = a.cps.toList ++ c :: r.cps.toList := by
    rw [PySem.Str.cps_append, PySem.Str.cps_append, Array.toList_append, Array.toList_append]
    simp
  generalize hx : (a ++ ⟨#[c]⟩ ++ r : Str) = x at *
  have hl : x.cps.toList.length = x.length := Array.length_toList
  have here : At x ⟨#[c]⟩ x.length a.cps.toList.length := one_at.mpr (by rw [hc, List.getElem?_append_right (Nat.le_refl _), Nat.sub_self]; rfl)
  rcases occ_head x ⟨#[c]⟩ 1 (Nat.le_refl 1) with ⟨_, hn⟩ | ⟨i, t, e, hi, hb⟩
  · exact absurd here (hn _)
  · have ei : i = a.cps.toList.length := by
      by_cases h1 : i < a.cps.toList.length
      · exfalso
        have z := one_at.mp hi
        rw [hc, List.getElem?_append_left h1] at z
        exact h (List.mem_of_getElem? z)
      · by_cases h2 : a.cps.toList.length < i
        · exact absurd here (hb _ h2)
        · omega
    unfold Txt.partition
    rw [e]
    subst ei
    show (strSub x 0 a.cps.toList.length, (⟨#[c]⟩ : Str), strSub x (a.cps.toList.length + 1) x.length) = _
    have e1 : strSub x 0 a.cps.toList.length = a := by
      refine PySem.Str.ext' (Array.toList_inj.mp ?_)
      rw [strSub_toList, List.drop_zero, Nat.sub_zero, hc, List.take_left]
    have e2 : strSub x (a.cps.toList.length + 1) x.length = r := by
      refine PySem.Str.ext' (Array.toList_inj.mp ?_)
      rw [strSub_toList, hc, ← List.drop_drop, List.drop_left]
      show List.take _ r.cps.toList = _
      refine List.take_of_length_le ?_
      have := congrArg List.length hc
      rw [List.length_append, List.length_cons, hl] at this
      omega
    rw [e1, e2]
/-- what stands between a beginning and an end -/
theorem mid_cut (p m q : Str) (hq : 1 ≤ q.length) : L2.cutS (p ++ m ++ q) (some (p.length : Int)) (some (-(q.length : Int))) = m := by
  have hc : (p ++ m ++ q : Str).cps.toList = p.cps.toList ++ (m.cps.toList ++ q.cps.toList) := by
    rw [PySem.Str.cps_append, PySem.Str.cps_append, Array.toList_append, Array.toList_append]
    simp
  have hlen : (p ++ m ++ q : Str).length = p.length + m.length + q.length := by rw [PySem.Str.length_append, PySem.Str.length_append]
  refine PySem.Str.ext' (Array.toList_inj.mp ?_)
  unfold L2.cutS
  have i1 : HT.sIx (p ++ m ++ q : Str).length 0 (some (p.length : Int)) = p.length := by
    rw [HT.sIx_nat, hlen]
    omega
  have i2 : HT.sIx (p ++ m ++ q : Str).length (p ++ m ++ q : Str).length (some (-(q.length : Int))) = p.length + m.length := by
    show (if -(q.length : Int) < 0 then _ else _) = _
    rw [if_pos (by omega), hlen]
    omega
  rw [i1, i2, hc]
  show List.take _ (List.drop p.length _) = _
  rw [← len_codes p, List.drop_left, show p.cps.toList.length + m.length - p.cps.toList.length = m.cps.toList.length from by rw [len_codes m]; omega, List.take_left]
theorem nt_log {n : Int} (h0 : 0 ≤ n) (h : n < 10 ^ 500) : n.natAbs.log2 < 1920 := by
  have h1 : n.natAbs < 10 ^ 500 := by
    have e : ((n.natAbs : Nat) : Int) = n := Int.natAbs_of_nonneg h0
    rw [← e] at h
    exact_mod_cast h
  exact PySem.Flt.log2_lt_of (by decide) (Nat.lt_trans h1 (by decide))
end Und
namespace Und
open PySem
/-! the texts of commands and of programs, and what cutting them gives -/
abbrev sp1 : Str := ⟨#[32]⟩
def amT : Option Int → Str
  | none => Str.ofString "all"
  | some n => nt n
def mvT (m : Mv) : Str := wdM m.1 ++ sp1 ++ amT m.2
abbrev sepC : Str := ⟨#[44, 32]⟩
abbrev sepS : Str := ⟨#[59, 32]⟩
abbrev opnT : Str := Str.ofString "times ("
abbrev clsT : Str := Str.ofString ")"
def cmT : Cmd → Str
  | .dd z => Str.ofString "do" ++ sp1 ++ z
  | .mv m => mvT m
  | .rep n ms => nt n ++ sp1 ++ (opnT ++ Txt.join sepC (ms.map mvT) ++ clsT)
def pgT (cs : List Cmd) : Str := match cs with
  | [] => Str.ofString "nothing"
  | _ :: _ => Txt.join sepS (cs.map cmT)
/-- an amount that is one, not too great to be written -/
def AmOk : Option Int → Prop
  | none => True
  | some n => 1 ≤ n ∧ n < 10 ^ 500
def MvOk (m : Mv) : Prop := AmOk m.2
def CmdOk : Cmd → Prop
  | .dd z => IsName z
  | .mv m => MvOk m
  | .rep n ms => 1 ≤ n ∧ n < 10 ^ 500 ∧ ms ≠ [] ∧ ∀ m ∈ ms, MvOk m
/-- x has no sign of the list -/
def Free (bad : List Nat) (x : Str) : Prop := ∀ c ∈ x.cps.toList, c ∉ bad
def freeB (bad : List Nat) (x : Str) : Bool := x.cps.toList.all fun c => !bad.contains c
theorem free_of {bad : List Nat} {x : Str} (h : freeB bad x = true) : Free bad x := fun c hc => by
  have := List.all_eq_true.mp h c hc
  simpa using this
theorem Free.app {bad : List Nat} {x y : Str} (h : Free bad x) (g : Free bad y) : Free bad (x ++ y) := fun c hc => by
  rw [PySem.Str.cps_append, Array.toList_append] at hc
  rcases List.mem_append.mp hc with hc | hc
  · exact h c hc
  · exact g c hc
theorem free_name {z : Str} (h : IsName z) : Free [59, 44, 32, 41] z := fun c hc hb => by
  have := h.low c hc
  simp at hb
  omega
theorem free_nt {n : Int} (h : 0 ≤ n) : Free [59, 44, 32, 41] (nt n) := fun c hc hb => by
  have := nt_all h c hc
  simp at hb
  omega
theorem Free.sub {bad bad' : List Nat} {x : Str} (h : Free bad x) (s : ∀ b ∈ bad', b ∈ bad) : Free bad' x := fun c hc hb => h c hc (s c hb)
theorem free_am {am : Option Int} (h : AmOk am) : Free [59, 44, 32, 41] (amT am) := by
  cases am with
  | none => exact free_of (by decide +kernel)
  | some n => exact free_nt (by have := h.1; omega)
theorem wd_free : ∀ b : Bool, freeB [59, 44, 32] (wdM b) = true := by decide +kernel
theorem free_mv {m : Mv} (h : MvOk m) : Free [59, 44] (mvT m) := by
  exact Free.app (Free.app ((free_of (wd_free m.1)).sub (by simp)) (free_of (by decide +kernel))) ((free_am h).sub (by simp))
theorem free_jc {a b : Nat} {bad : List Nat} (ha : a ∉ bad) (hb : b ∉ bad) : ∀ xs : List Str, (∀ x ∈ xs, Free bad x) → ∀ c ∈ jc a b xs, c ∉ bad
  | [], _, c, hc => by cases hc
  | [x], h, c, hc => by
    rw [jc_one] at hc
    exact h x List.mem_cons_self c hc
  | x :: y :: r, h, c, hc => by
    rw [jc_cons] at hc
    rcases List.mem_append.mp hc with hc | hc
    · exact h x List.mem_cons_self c hc
    · rcases List.mem_cons.mp hc with rfl | hc
      · exact ha
      · rcases List.mem_cons.mp hc with rfl | hc
        · exact hb
        · exact free_jc ha hb (y :: r) (fun z hz => h z (List.mem_cons_of_mem _ hz)) c hc
theorem free_join {bad : List Nat} {a b : Nat} (ha : a ∉ bad) (hb : b ∉ bad) {xs : List Str} (h : ∀ x ∈ xs, Free bad x) : Free bad (Txt.join ⟨#[a, b]⟩ xs) := fun c hc => by
  rw [join_codes'] at hc
  exact free_jc ha hb xs h c hc
theorem free_cm {c : Cmd} (h : CmdOk c) : Free [59] (cmT c) := by
  cases c with
  | dd z => exact Free.app (Free.app (free_of (by decide +kernel)) (free_of (by decide +kernel))) ((free_name h).sub (by simp))
  | mv m => exact (free_mv h).sub (by simp)
  | rep n ms =>
    obtain ⟨h1, h2, h3, h4⟩ := h
    refine Free.app (Free.app ((free_nt (by omega)).sub (by simp)) (free_of (by decide +kernel))) (Free.app (Free.app (free_of (by decide +kernel)) ?_) (free_of (by decide +kernel)))
    refine free_join (by decide) (by decide) fun x hx => ?_
    obtain ⟨m, hm, rfl⟩ := List.mem_map.mp hx
    exact (free_mv (h4 m hm)).sub (by simp)
/-! ### cut -/
theorem cut_prog (c : Cmd) (cs : List Cmd) (h : ∀ x ∈ c :: cs, CmdOk x) : Txt.split (pgT (c :: cs)) sepS = (c :: cs).map cmT :=
  split_join (by decide) (by decide) (cmT c) (cs.map cmT) fun z hz => by
    obtain ⟨x, hx, rfl⟩ := List.mem_map.mp (show z ∈ (c :: cs).map cmT from hz)
    exact fun hm => free_cm (h x hx) 59 hm (by simp)
theorem cut_steps (m : Mv) (ms : List Mv) (h : ∀ x ∈ m :: ms, MvOk x) : Txt.split (Txt.join sepC ((m :: ms).map mvT)) sepC = (m :: ms).map mvT :=
  split_join (by decide) (by decide) (mvT m) (ms.map mvT) fun z hz => by
    obtain ⟨x, hx, rfl⟩ := List.mem_map.mp (show z ∈ (m :: ms).map mvT from hz)
    exact fun hm => free_mv (h x hx) 44 hm (by simp)
theorem part_do {z : Str} : Txt.partition (cmT (.dd z)) sp1 = (Str.ofString "do", sp1, z) := part_at 32 _ _ (by decide +kernel)
theorem part_mv (m : Mv) : Txt.partition (mvT m) sp1 = (wdM m.1, sp1, amT m.2) := part_at 32 _ _ fun hm => free_of (wd_free m.1) 32 hm (by simp)
theorem part_rep {n : Int} (ms : List Mv) (h : 0 ≤ n) : Txt.partition (cmT (.rep n ms)) sp1 = (nt n, sp1, opnT ++ Txt.join sepC (ms.map mvT) ++ clsT) := part_at 32 _ _ fun hm => free_nt h 32 hm (by simp)
theorem opn_len : opnT.length = 7 := by decide +kernel
theorem cls_len : clsT.length = 1 := by decide +kernel
theorem steps_cut (j : Str) : L2.cutS (opnT ++ j ++ clsT) (some 7) (some (-1)) = j := by
  have := mid_cut opnT j clsT (by rw [cls_len]; exact Nat.le_refl 1)
  rw [opn_len, cls_len] at this
  exact this
theorem steps_starts (j : Str) : Txt.startswith (opnT ++ j ++ clsT) opnT = true := by
  rw [PySem.Str.append_assoc]
  exact PySem.W.KT.starts_app _ _
theorem steps_ends (j : Str) : Txt.endswith (opnT ++ j ++ clsT) clsT = true := PySem.W.KT.ends_app _ _
/-- the text of a number is no word -/
theorem nt_word {n : Int} (h : 1 ≤ n) {z : Str} (hz : ∀ c ∈ z.cps.toList.head?, 97 ≤ c) : nt n ≠ z := fun e => by
  obtain ⟨c, r, ec, hc⟩ := nt_fst h
  rw [e] at ec
  have := hz c (by rw [ec]; rfl)
  omega
theorem nt_ne {n : Int} (h : 1 ≤ n) : nt n ≠ Str.ofString "undo" ∧ nt n ≠ Str.ofString "redo" ∧ nt n ≠ Str.ofString "do" ∧ nt n ≠ Str.ofString "all" :=
  ⟨nt_word h (by decide +kernel), nt_word h (by decide +kernel), nt_word h (by decide +kernel), nt_word h (by decide +kernel)⟩
end Und
namespace Und
open PySem
/-! sizes of texts, and how they are put together -/
def Sml (x : Str) : Prop := ∀ c ∈ x.cps.toList, c < 128
theorem Sml.app {x y : Str} (h : Sml x) (g : Sml y) : Sml (x ++ y) := fun c hc => by
  rw [PySem.Str.cps_append, Array.toList_append] at hc
  rcases List.mem_append.mp hc with hc | hc
  · exact h c hc
  · exact g c hc
def smlB (x : Str) : Bool := x.cps.toList.all fun c => decide (c < 128)
theorem sml_of {x : Str} (h : smlB x = true) : Sml x := fun c hc => by
  have := List.all_eq_true.mp h c hc
  simpa using this
theorem sml_nt {n : Int} (h : 0 ≤ n) : Sml (nt n) := fun c hc => by
  have := nt_all h c hc
  omega
theorem sml_jc {a b : Nat} (ha : a < 128) (hb : b < 128) : ∀ xs : List Str, (∀ x ∈ xs, Sml x) → ∀ c ∈ jc a b xs, c < 128
  | [], _, c, hc => by cases hc
  | [x], h, c, hc => by
    rw [jc_one] at hc
    exact h x List.mem_cons_self c hc
  | x :: y :: r, h, c, hc => by
    rw [jc_cons] at hc
    rcases List.mem_append.mp hc with hc | hc
    · exact h x List.mem_cons_self c hc
    · rcases List.mem_cons.mp hc with rfl | hc
      · exact ha
      · rcases List.mem_cons.mp hc with rfl | hc
        · exact hb
        · exact sml_jc ha hb (y :: r) (fun z hz => h z (List.mem_cons_of_mem _ hz)) c hc
theorem sml_wd : ∀ b : Bool, smlB (wdM b) = true := by decide +kernel
theorem sml_mv {m : Mv} (h : MvOk m) : Sml (mvT m) := by
  refine Sml.app (Sml.app (sml_of (sml_wd m.1)) (sml_of (by decide +kernel))) ?_
  obtain ⟨b, am⟩ := m
  cases am with
  | none => exact sml_of (show smlB (Str.ofString "all") = true by decide +kernel)
  | some n => exact sml_nt (by have : 1 ≤ n := h.1; omega)
theorem sml_cm {c : Cmd} (h : CmdOk c) : Sml (cmT c) := by
  cases c with
  | dd z => exact Sml.app (Sml.app (sml_of (by decide +kernel)) (sml_of (by decide +kernel))) fun c hc => by have := h.low c hc; omega
  | mv m => exact sml_mv h
  | rep n ms =>
    obtain ⟨h1, h2, h3, h4⟩ := h
    refine Sml.app (Sml.app (sml_nt (by omega)) (sml_of (by decide +kernel))) (Sml.app (Sml.app (sml_of (by decide +kernel)) fun c hc => ?_) (sml_of (by decide +kernel)))
    rw [join_codes'] at hc
    refine sml_jc (by decide) (by decide) _ (fun x hx => ?_) c hc
    obtain ⟨m, hm, rfl⟩ := List.mem_map.mp hx
    exact sml_mv (h4 m hm)
theorem sml_ok {x : Str} (h : Sml x) : PyData.strOk x = true := by
  unfold PyData.strOk
  rw [Array.all_eq_true_iff_forall_mem]
  intro c hc
  have := h c (by simpa using hc)
  exact decide_eq_true (by omega)
def dStrs (ns : List Str) : PyData := .list (ns.map .str)
theorem dp_strs {K : PySem.W.Frag} {H : L2.Hp} {a : Addr} {ns : List Str} (h : L2.SqL K H a (ns.map L2.V.str)) : L2.Dp K H (.ref a) (dStrs ns) := .lst h (dpAll_strs ns)
theorem dok_strs {ns : List Str} (h : ∀ z ∈ ns, Sml z) : DOk (dStrs ns) 1 := by
  refine ⟨?_, ?_⟩
  · unfold dStrs PyData.canLay0
    exact canAll_strs ns fun z hz => sml_ok (h z hz)
  · unfold dStrs PyData.depth
    rw [depthAll_strs]
    exact Nat.le_refl _
theorem eqv_strs_nil (ns : List Str) : PyData.eqv (dStrs ns) (dStrs []) = decide (ns = []) := by
  cases ns with
  | nil =>
    unfold dStrs
    rw [decide_eq_true rfl]
    simp [PyData.eqv, PyData.eqvAll]
  | cons z r =>
    unfold dStrs
    rw [decide_eq_false (by simp)]
    simp [PyData.eqv, PyData.eqvAll]
/-! ### sizes -/
theorem am_len {am : Option Int} (h : AmOk am) : (amT am).length ≤ 600 := by
  cases am with
  | none => exact (by decide +kernel : (Str.ofString "all").length ≤ 600)
  | some n => exact nt_len (by have := h.1; omega) h.2
theorem wd_len : ∀ b : Bool, (wdM b).length ≤ 4 := by decide +kernel
theorem sp_len : sp1.length = 1 := rfl
theorem mv_len {m : Mv} (h : MvOk m) : (mvT m).length ≤ 605 := by
  have h1 := wd_len m.1
  have h2 := am_len h
  unfold mvT
  rw [PySem.Str.length_append, PySem.Str.length_append, sp_len]
  omega
theorem sum_len {B : Nat} : ∀ (ns : List Str), (∀ z ∈ ns, z.length ≤ B) → (ns.map (·.length)).sum ≤ B * ns.length
  | [], _ => by simp
  | z :: ns, h => by
    have ih := sum_len ns fun y hy => h y (List.mem_cons_of_mem _ hy)
    have hz := h z List.mem_cons_self
    rw [List.map_cons, List.sum_cons, List.length_cons, Nat.mul_succ]
    omega
theorem jc_len {B a b : Nat} : ∀ (xs : List Str), (∀ z ∈ xs, z.length ≤ B) → (jc a b xs).length ≤ (B + 2) * xs.length
  | [], _ => by simp [jc]
  | [x], h => by
    rw [jc_one, len_codes]
    have := h x List.mem_cons_self
    simp
    omega
  | x :: y :: r, h => by
    have ih := jc_len (a := a) (b := b) (y :: r) fun z hz => h z (List.mem_cons_of_mem _ hz)
    have hx := h x List.mem_cons_self
    rw [jc_cons, List.length_append, List.length_cons, List.length_cons, len_codes]
    rw [List.length_cons (a := x), Nat.mul_succ]
    omega
theorem join_len {B a b : Nat} {xs : List Str} (h : ∀ z ∈ xs, z.length ≤ B) : (Txt.join ⟨#[a, b]⟩ xs).length ≤ (B + 2) * xs.length := by
  rw [← len_codes, join_codes']
  exact jc_len xs h
theorem mvs_len {ms : List Mv} (h : ∀ m ∈ ms, MvOk m) : ∀ z ∈ ms.map mvT, z.length ≤ 605 := fun z hz => by
  obtain ⟨m, hm, rfl⟩ := List.mem_map.mp hz
  exact mv_len (h m hm)
/-- few moves in a repeat -/
def CmdSz : Cmd → Prop
  | .rep _ ms => ms.length ≤ 100
  | _ => True
theorem cm_len {c : Cmd} (h : CmdOk c) (hs : CmdSz c) : (cmT c).length ≤ 62000 := by
  cases c with
  | dd z =>
    have h8 := h.hi
    have h2 : (Str.ofString "do").length = 2 := by decide +kernel
    show (Str.ofString "do" ++ sp1 ++ z : Str).length ≤ _
    rw [PySem.Str.length_append, PySem.Str.length_append, sp_len, h2]
    omega
  | mv m => exact Nat.le_trans (mv_len h) (by decide)
  | rep n ms =>
    obtain ⟨h1, h2, h3, h4⟩ := h
    have hl := nt_len (by omega : (0 : Int) ≤ n) h2
    have hj := join_len (a := 44) (b := 32) (mvs_len h4)
    have hm : ms.length ≤ 100 := hs
    rw [List.length_map] at hj
    show (nt n ++ sp1 ++ (opnT ++ Txt.join sepC (ms.map mvT) ++ clsT) : Str).length ≤ _
    rw [PySem.Str.length_append, PySem.Str.length_append, PySem.Str.length_append, PySem.Str.length_append, sp_len, opn_len, cls_len]
    have : (Txt.join sepC (ms.map mvT)).length ≤ 60700 := Nat.le_trans hj (Nat.le_trans (Nat.mul_le_mul_left _ hm) (by decide))
    omega
theorem cms_len {cs : List Cmd} (h : ∀ c ∈ cs, CmdOk c ∧ CmdSz c) : ∀ z ∈ cs.map cmT, z.length ≤ 62000 := fun z hz => by
  obtain ⟨c, hc, rfl⟩ := List.mem_map.mp hz
  exact cm_len (h c hc).1 (h c hc).2
/-! ### put together -/
theorem put_do (z : Str) : Str.ofString "do " ++ z = cmT (.dd z) := by
  show _ = Str.ofString "do" ++ sp1 ++ z
  rw [show Str.ofString "do" ++ sp1 = Str.ofString "do " from by decide +kernel]
theorem put_mv (m : Mv) : wdM m.1 ++ Str.ofString " " ++ amT m.2 = mvT m := by
  rw [show Str.ofString " " = sp1 from by decide +kernel]
  rfl
theorem put_rep (n : Int) (ms : List Mv) : nt n ++ Str.ofString " times (" ++ Txt.join sepC (ms.map mvT) ++ Str.ofString ")" = cmT (.rep n ms) := by
  show _ = nt n ++ sp1 ++ (opnT ++ Txt.join sepC (ms.map mvT) ++ clsT)
  rw [show Str.ofString " times (" = sp1 ++ opnT from by decide +kernel]
  rw [PySem.Str.append_assoc (nt n) sp1, PySem.Str.append_assoc opnT, ← PySem.Str.append_assoc (nt n) sp1 opnT, PySem.Str.append_assoc, PySem.Str.append_assoc, PySem.Str.append_assoc]
end Und
namespace Und
open PySem
/-! different commands have different texts -/
theorem nt_inj {n m : Int} (h1 : 1 ≤ n) (h2 : n < 10 ^ 500) (g1 : 1 ≤ m) (g2 : m < 10 ^ 500) (e : nt n = nt m) : n = m := by
  have a := nt_reads h1 h2
  rw [e, nt_reads g1 g2] at a
  exact (Option.some.inj a).symm
theorem amT_inj {a b : Option Int} (h : AmOk a) (g : AmOk b) (e : amT a = amT b) : a = b := by
  cases a with
  | none =>
    cases b with
    | none => rfl
    | some m => exact absurd e.symm (nt_ne g.1).2.2.2
  | some n =>
    cases b with
    | none => exact absurd e (nt_ne h.1).2.2.2
    | some m => rw [nt_inj h.1 h.2 g.1 g.2 e]
theorem wdM_inj : ∀ {a b : Bool}, wdM a = wdM b → a = b := by decide +kernel
theorem mvT_inj {m k : Mv} (h : MvOk m) (g : MvOk k) (e : mvT m = mvT k) : m = k := by
  have a := part_mv m
  rw [e, part_mv k] at a
  have a1 := (Prod.mk.inj a).1
  have a2 := (Prod.mk.inj (Prod.mk.inj a).2).2
  obtain ⟨b, x⟩ := m
  obtain ⟨c, y⟩ := k
  obtain rfl : c = b := wdM_inj a1
  obtain rfl : y = x := amT_inj g h a2
  rfl
theorem map_mvT_inj : ∀ {ms ks : List Mv}, (∀ m ∈ ms, MvOk m) → (∀ m ∈ ks, MvOk m) → ms.map mvT = ks.map mvT → ms = ks
  | [], [], _, _, _ => rfl
  | [], _ :: _, _, _, e => by simp at e
  | _ :: _, [], _, _, e => by simp at e
  | m :: ms, k :: ks, h, g, e => by
    have e' := List.cons.inj e
    rw [mvT_inj (h m List.mem_cons_self) (g k List.mem_cons_self) e'.1, map_mvT_inj (fun x hx => h x (List.mem_cons_of_mem _ hx)) (fun x hx => g x (List.mem_cons_of_mem _ hx)) e'.2]
def wdC : Cmd → Str
  | .dd _ => Str.ofString "do"
  | .mv m => wdM m.1
  | .rep n _ => nt n
def rsC : Cmd → Str
  | .dd z => z
  | .mv m => amT m.2
  | .rep _ ms => opnT ++ Txt.join sepC (ms.map mvT) ++ clsT
theorem part_cm {c : Cmd} (h : CmdOk c) : Txt.partition (cmT c) sp1 = (wdC c, sp1, rsC c) := by
  cases c with
  | dd z => exact part_do
  | mv m => exact part_mv m
  | rep n ms => exact part_rep ms (by have : 1 ≤ n := h.1; omega)
theorem wd_do : ∀ b : Bool, wdM b ≠ Str.ofString "do" := by decide +kernel
theorem wd_nt {n : Int} (h : 1 ≤ n) (b : Bool) : nt n ≠ wdM b := by
  cases b with
  | true => exact (nt_ne h).1
  | false => exact (nt_ne h).2.1
theorem cmT_inj {c d : Cmd} (h : CmdOk c) (g : CmdOk d) (e : cmT c = cmT d) : c = d := by
  have a := part_cm h
  rw [e, part_cm g] at a
  have a1 : wdC d = wdC c := (Prod.mk.inj a).1
  have a2 : rsC d = rsC c := (Prod.mk.inj (Prod.mk.inj a).2).2
  cases c with
  | dd z =>
    cases d with
    | dd y => rw [show y = z from a2]
    | mv m => exact absurd a1 (wd_do m.1)
    | rep n ms => exact absurd a1 (nt_ne g.1).2.2.1
  | mv m =>
    cases d with
    | dd y => exact absurd a1.symm (wd_do m.1)
    | mv k =>
      obtain ⟨b, x⟩ := m
      obtain ⟨c, y⟩ := k
      obtain rfl : c = b := wdM_inj a1
      obtain rfl : y = x := amT_inj g h a2
      rfl
    | rep n ms => exact absurd a1 (wd_nt g.1 m.1)
  | rep n ms =>
    cases d with
    | dd y => exact absurd a1.symm (nt_ne h.1).2.2.1
    | mv k => exact absurd a1.symm (wd_nt h.1 k.1)
    | rep k ks =>
      obtain ⟨h1, h2, h3, h4⟩ := h
      obtain ⟨g1, g2, g3, g4⟩ := g
      have en := nt_inj g1 g2 h1 h2 a1
      have ej := congrArg (fun x => L2.cutS x (some 7) (some (-1))) a2
      have ej : L2.cutS (opnT ++ Txt.join sepC (ks.map mvT) ++ clsT) (some 7) (some (-1)) = L2.cutS (opnT ++ Txt.join sepC (ms.map mvT) ++ clsT) (some 7) (some (-1)) := ej
      rw [steps_cut, steps_cut] at ej
      obtain ⟨m0, ms0, rfl⟩ := List.exists_cons_of_ne_nil h3
      obtain ⟨k0, ks0, rfl⟩ := List.exists_cons_of_ne_nil g3
      have es := congrArg (fun x => Txt.split x sepC) ej
      have es : Txt.split (Txt.join sepC ((k0 :: ks0).map mvT)) sepC = Txt.split (Txt.join sepC ((m0 :: ms0).map mvT)) sepC := es
      rw [cut_steps m0 ms0 h4, cut_steps k0 ks0 g4] at es
      rw [en, map_mvT_inj g4 h4 es]
end Und
/-! commands as data -/
namespace Und
open PySem PySem.Spec PyProof.Rows L2
def dAm : Option Int → PyData
  | none => .none
  | some k => .int k
def dMv (m : Mv) : PyData := .tuple [.str (wdM m.1), dAm m.2]
def dCm : Cmd → PyData
  | .dd z => .tuple [.str "do", .str z]
  | .mv m => dMv m
  | .rep n ms => .tuple [.str "repeat", .int n, .tuple (ms.map dMv)]
def dCs (cs : List Cmd) : PyData := .tuple (cs.map dCm)
theorem dok_str {z : Str} (h : PyData.strOk z = true) : DOk (.str z) 0 := ⟨by simp [PyData.canLay0, h], by simp [PyData.depth]⟩
theorem dok_int (i : Int) : DOk (.int i) 0 := ⟨by simp [PyData.canLay0], by simp [PyData.depth]⟩
theorem dok_non : DOk .none 0 := ⟨by simp [PyData.canLay0], by simp [PyData.depth]⟩
theorem dok_bool (b : Bool) : DOk (.bool b) 0 := ⟨by simp [PyData.canLay0], by simp [PyData.depth]⟩
theorem dok_am (am : Option Int) : DOk (dAm am) 0 := by
  cases am with
  | none => exact dok_non
  | some k => exact dok_int k
theorem wd_sok : ∀ b : Bool, PyData.strOk (wdM b) = true := by decide +kernel
theorem dok_mv (m : Mv) : DOk (dMv m) 1 := (dok_list (n := 0) fun d hd => by
  rcases List.mem_cons.mp hd with rfl | hd
  · exact dok_str (wd_sok m.1)
  · rw [List.mem_singleton.mp hd]
    exact dok_am m.2).2
theorem dok_cm {c : Cmd} (h : CmdOk c) : DOk (dCm c) 3 := by
  cases c with
  | dd z =>
    refine ((dok_list (n := 0) fun d hd => ?_).2).mono (by decide)
    rcases List.mem_cons.mp hd with rfl | hd
    · exact dok_str (by decide +kernel)
    · rw [List.mem_singleton.mp hd]
      exact dok_str (low_ok (IsName.low h))
  | mv m => exact (dok_mv m).mono (by decide)
  | rep n ms =>
    refine (dok_list (n := 2) fun d hd => ?_).2
    rcases List.mem_cons.mp hd with rfl | hd
    · exact (dok_str (by decide +kernel)).mono (by decide)
    rcases List.mem_cons.mp hd with rfl | hd
    · exact (dok_int n).mono (by decide)
    · rw [List.mem_singleton.mp hd]
      refine (dok_list (n := 1) fun d hd => ?_).2
      obtain ⟨m, _, rfl⟩ := List.mem_map.mp hd
      exact dok_mv m
theorem dok_cs {cs : List Cmd} (h : ∀ c ∈ cs, CmdOk c) : DOk (dCs cs) 4 := (dok_list (n := 3) fun d hd => by
  obtain ⟨c, hc, rfl⟩ := List.mem_map.mp hd
  exact dok_cm (h c hc)).2
/-! ### equal data, equal commands -/
theorem ev_tup (xs ys : List PyData) : PyData.eqv (.tuple xs) (.tuple ys) = PyData.eqvAll xs ys := by
  unfold PyData.eqv
  rfl
theorem ev_cons (x y : PyData) (xs ys : List PyData) : PyData.eqvAll (x :: xs) (y :: ys) = (PyData.eqv x y && PyData.eqvAll xs ys) := by
  conv => lhs; unfold PyData.eqvAll
theorem ev_nil : PyData.eqvAll [] [] = true := by
  unfold PyData.eqvAll
  rfl
theorem ev_nc (y : PyData) (ys : List PyData) : PyData.eqvAll [] (y :: ys) = false := by
  unfold PyData.eqvAll
  rfl
theorem ev_cn (x : PyData) (xs : List PyData) : PyData.eqvAll (x :: xs) [] = false := by
  unfold PyData.eqvAll
  rfl
theorem ev_str (x y : PySem.Str) : PyData.eqv (.str x) (.str y) = (x == y) := by
  unfold PyData.eqv
  rfl
theorem ev_int (x y : Int) : PyData.eqv (.int x) (.int y) = (x == y) := by
  unfold PyData.eqv
  rfl
theorem eqvAll_map {α : Type} {f : α → PyData} : ∀ {xs ys : List α}, (∀ x ∈ xs, ∀ y ∈ ys, PyData.eqv (f x) (f y) = true ↔ x = y) → (PyData.eqvAll (xs.map f) (ys.map f) = true ↔ xs = ys)
  | [], [], _ => by
    rw [List.map_nil, ev_nil]
    exact ⟨fun _ => rfl, fun _ => rfl⟩
  | [], y :: ys, _ => by
    rw [List.map_nil, List.map_cons, ev_nc]
    exact ⟨fun h => (nomatch h), fun h => (nomatch h)⟩
  | x :: xs, [], _ => by
    rw [List.map_nil, List.map_cons, ev_cn]
    exact ⟨fun h => (nomatch h), fun h => (nomatch h)⟩
  | x :: xs, y :: ys, h => by
    have ih := eqvAll_map (f := f) (xs := xs) (ys := ys) fun a ha b hb => h a (List.mem_cons_of_mem _ ha) b (List.mem_cons_of_mem _ hb)
    have h0 := h x List.mem_cons_self y List.mem_cons_self
    rw [List.map_cons, List.map_cons, ev_cons, Bool.and_eq_true, h0, ih, List.cons.injEq]
theorem ev_non : PyData.eqv .none .none = true := by
  unfold PyData.eqv
  rfl
theorem ev_ni (k : Int) : PyData.eqv .none (.int k) = false := by
  unfold PyData.eqv
  rfl
theorem ev_in (k : Int) : PyData.eqv (.int k) .none = false := by
  unfold PyData.eqv
  rfl
theorem eqv_am : ∀ (a b : Option Int), PyData.eqv (dAm a) (dAm b) = true ↔ a = b
  | none, none => ⟨fun _ => rfl, fun _ => ev_non⟩
  | none, some k => ⟨fun h => (nomatch (ev_ni k).symm.trans h), fun h => (nomatch h)⟩
  | some k, none => ⟨fun h => (nomatch (ev_in k).symm.trans h), fun h => (nomatch h)⟩
  | some j, some k => by
    show PyData.eqv (.int j) (.int k) = true ↔ _
    rw [ev_int, beq_iff_eq, Option.some.injEq]
theorem eqv_mv (m k : Mv) : PyData.eqv (dMv m) (dMv k) = true ↔ m = k := by
  obtain ⟨b, am⟩ := m
  obtain ⟨c, an⟩ := k
  have h := eqv_am am an
  unfold dMv
  rw [ev_tup, ev_cons, ev_cons, ev_nil, ev_str, Bool.and_true, Bool.and_eq_true, h, beq_iff_eq, Prod.mk.injEq]
  exact ⟨fun ⟨x, y⟩ => ⟨wdM_inj x, y⟩, fun ⟨x, y⟩ => ⟨by show wdM b = wdM c; rw [show b = c from x], y⟩⟩
theorem eqv_cm (c d : Cmd) : PyData.eqv (dCm c) (dCm d) = true ↔ c = d := by
  have w1 : ∀ b : Bool, (("do" : PySem.Str) == wdM b) = false := by decide +kernel
  have w2 : ∀ b : Bool, (wdM b == ("do" : PySem.Str)) = false := by decide +kernel
  cases c with
  | dd z =>
    cases d with
    | dd y =>
      unfold dCm
      rw [ev_tup, ev_cons, ev_cons, ev_nil, ev_str, ev_str, Bool.and_true, beq_self_eq_true, Bool.true_and, beq_iff_eq, Cmd.dd.injEq]
    | mv k =>
      unfold dCm dMv
      rw [ev_tup, ev_cons, ev_str, w1, Bool.false_and]
      exact ⟨fun h => (nomatch h), fun h => (nomatch h)⟩
    | rep n ms =>
      unfold dCm
      rw [ev_tup, ev_cons, ev_cons, ev_nc, Bool.and_false, Bool.and_false]
      exact ⟨fun h => (nomatch h), fun h => (nomatch h)⟩
  | mv m =>
    cases d with
    | dd y =>
      unfold dCm dMv
      rw [ev_tup, ev_cons, ev_str, w2, Bool.false_and]
      exact ⟨fun h => (nomatch h), fun h => (nomatch h)⟩
    | mv k =>
      rw [Cmd.mv.injEq]
      exact eqv_mv m k
    | rep n ms =>
      unfold dCm dMv
      rw [ev_tup, ev_cons, ev_cons, ev_nc, Bool.and_false, Bool.and_false]
      exact ⟨fun h => (nomatch h), fun h => (nomatch h)⟩
  | rep n ms =>
    cases d with
    | dd y =>
      unfold dCm
      rw [ev_tup, ev_cons, ev_cons, ev_cn, Bool.and_false, Bool.and_false]
      exact ⟨fun h => (nomatch h), fun h => (nomatch h)⟩
    | mv k =>
      unfold dCm dMv
      rw [ev_tup, ev_cons, ev_cons, ev_cn, Bool.and_false, Bool.and_false]
      exact ⟨fun h => (nomatch h), fun h => (nomatch h)⟩
    | rep n' ms' =>
      have h := eqvAll_map (f := dMv) (xs := ms) (ys := ms') fun x _ y _ => eqv_mv x y
      unfold dCm
      rw [ev_tup, ev_cons, ev_cons, ev_cons, ev_nil, ev_str, ev_int, ev_tup, Bool.and_true, beq_self_eq_true, Bool.true_and, Bool.and_eq_true, beq_iff_eq, h, Cmd.rep.injEq]
theorem eqv_cs (cs ds : List Cmd) : PyData.eqv (dCs cs) (dCs ds) = true ↔ cs = ds := by
  have h := eqvAll_map (f := dCm) (xs := cs) (ys := ds) fun x _ y _ => eqv_cm x y
  unfold dCs
  rw [ev_tup]
  exact h
/-! ### how long the texts of commands as data are -/
theorem shw_str8 {z : Str} (h : IsName z) : Shw (.str z) 82 := shw_name h
theorem shw_am {am : Option Int} (h : AmOk am) : Shw (dAm am) 510 := by
  cases am with
  | none => exact ⟨by decide +kernel, by decide +kernel⟩
  | some k => exact shw_int (by have := h.1; omega) (Int.lt_of_lt_of_le h.2 (by decide +kernel))
theorem shw_wd : ∀ b : Bool, Shw (.str (wdM b)) 82 := fun b => shw_name (name_of ((by decide +kernel : ∀ b : Bool, nameB (wdM b) = true) b))
theorem shw_mv {m : Mv} (h : MvOk m) : Shw (dMv m) 1030 := (shw_tuple (n := 510) fun d hd => by
  rcases List.mem_cons.mp hd with rfl | hd
  · exact (shw_wd m.1).mono (by decide)
  · rw [List.mem_singleton.mp hd]
    exact shw_am h).mono (by simp)
/-- repeats have few moves -/
def FewC : Cmd → Prop
  | .rep _ ms => ms.length ≤ 4
  | _ => True
theorem shw_cm {c : Cmd} (h : CmdOk c) (f : FewC c) : Shw (dCm c) 15000 := by
  cases c with
  | dd z =>
    refine (shw_tuple (n := 82) fun d hd => ?_).mono (by simp)
    rcases List.mem_cons.mp hd with rfl | hd
    · exact shw_name (name_of (by decide +kernel))
    · rw [List.mem_singleton.mp hd]
      exact shw_name h
  | mv m => exact (shw_mv h).mono (by decide)
  | rep n ms =>
    obtain ⟨h1, h2, h3, h4⟩ := h
    have f : ms.length ≤ 4 := f
    refine (shw_tuple (n := 4200) fun d hd => ?_).mono (by simp)
    rcases List.mem_cons.mp hd with rfl | hd
    · exact (shw_name (name_of (by decide +kernel))).mono (by decide)
    rcases List.mem_cons.mp hd with rfl | hd
    · exact (shw_int (by omega) (Int.lt_of_lt_of_le h2 (by decide +kernel))).mono (by decide)
    · rw [List.mem_singleton.mp hd]
      refine (shw_tuple (n := 1030) fun d hd => ?_).mono (by rw [List.length_map]; omega)
      obtain ⟨m, hm, rfl⟩ := List.mem_map.mp hd
      exact shw_mv (h4 m hm)
theorem shw_cs {cs : List Cmd} (h : ∀ c ∈ cs, CmdOk c) (f : ∀ c ∈ cs, FewC c) (hl : cs.length ≤ 600) : Shw (dCs cs) 9100000 := (shw_tuple (n := 15000) fun d hd => by
  obtain ⟨c, hc, rfl⟩ := List.mem_map.mp hd
  exact shw_cm (h c hc) (f c hc)).mono (by rw [List.length_map]; omega)
/-! ### texts tell programs apart -/
theorem pgT_inj {cs ds : List Cmd} (h : ∀ c ∈ cs, CmdOk c) (g : ∀ c ∈ ds, CmdOk c) (hn : ∀ c ds, (∀ x ∈ c :: ds, CmdOk x) → pgT (c :: ds) ≠ Str.ofString "nothing") (e : pgT cs = pgT ds) : cs = ds := by
  cases cs with
  | nil =>
    cases ds with
    | nil => rfl
    | cons d ds => exact absurd e.symm (hn d ds g)
  | cons c cs =>
    cases ds with
    | nil => exact absurd e (hn c cs h)
    | cons d ds =>
      have a := cut_prog c cs h
      rw [e, cut_prog d ds g] at a
      have : ∀ {xs ys : List Cmd}, (∀ x ∈ xs, CmdOk x) → (∀ x ∈ ys, CmdOk x) → xs.map cmT = ys.map cmT → xs = ys := by
        intro xs
        induction xs with
        | nil =>
          intro ys _ _ e
          cases ys with
          | nil => rfl
          | cons y ys => simp at e
        | cons x xs ih =>
          intro ys h g e
          cases ys with
          | nil => simp at e
          | cons y ys =>
            rw [List.map_cons, List.map_cons, List.cons.injEq] at e
            rw [cmT_inj (h x List.mem_cons_self) (g y List.mem_cons_self) e.1, ih (fun z hz => h z (List.mem_cons_of_mem _ hz)) (fun z hz => g z (List.mem_cons_of_mem _ hz)) e.2]
      exact this h g a.symm
end Und
/-! what a program leaves of a past of some length, and of one that is longer by one -/
namespace Und
/-- old items kept, the dos whose items are kept, the items in the past, the dos so far -/
structure LS where
  k : Nat
  D : List Nat
  p : Nat
  i : Nat
def LS.size (s : LS) : Nat := s.k + s.D.length
def LS.cm (s : LS) (c : Cmd) : LS := match c with
  | .dd _ => ⟨min s.k s.p, s.D.take (s.p - min s.k s.p) ++ [s.i], s.p + 1, s.i + 1⟩
  | .mv m => ⟨s.k, s.D, mvP s.size s.p m, s.i⟩
  | .rep t ms => ⟨s.k, s.D, itP s.size ms t.toNat s.p, s.i⟩
def lsOf (n : Nat) (cs : List Cmd) : LS := cs.foldl LS.cm ⟨n, [], n, 0⟩
theorem lsOf_app (n : Nat) (as bs : List Cmd) : lsOf n (as ++ bs) = bs.foldl LS.cm (lsOf n as) := List.foldl_append
theorem LS.ok_cm {s : LS} (h : s.p ≤ s.size) (c : Cmd) : (s.cm c).p ≤ (s.cm c).size := by
  cases c with
  | dd z =>
    show s.p + 1 ≤ min s.k s.p + (s.D.take (s.p - min s.k s.p) ++ [s.i]).length
    rw [List.length_append, List.length_take]
    unfold LS.size at h
    simp
    omega
  | mv m => exact mvP_le m h
  | rep t ms => exact itP_le _ h
theorem LS.ok_run : ∀ (cs : List Cmd) {s : LS}, s.p ≤ s.size → (cs.foldl LS.cm s).p ≤ (cs.foldl LS.cm s).size
  | [], _, h => h
  | c :: cs, _, h => LS.ok_run cs (LS.ok_cm h c)
/-! ### one item more -/
theorem mvP_near {n p q : Nat} (m : Mv) (hp : p ≤ n) (h : q = p ∨ q = p + 1) : mvP (n + 1) q m = mvP n p m ∨ mvP (n + 1) q m = mvP n p m + 1 := by
  unfold mvP
  obtain ⟨b, am⟩ := m
  cases am with
  | none => cases b <;> simp [mvN] <;> omega
  | some a => cases b <;> simp [mvN] <;> omega
theorem stP_near {n : Nat} : ∀ (ms : List Mv) {p q : Nat}, p ≤ n → (q = p ∨ q = p + 1) → stP (n + 1) q ms = stP n p ms ∨ stP (n + 1) q ms = stP n p ms + 1
  | [], _, _, _, h => h
  | m :: ms, _, _, hp, h => stP_near ms (mvP_le m hp) (mvP_near m hp h)
theorem itP_near {n : Nat} {ms : List Mv} : ∀ (k : Nat) {p q : Nat}, p ≤ n → (q = p ∨ q = p + 1) → itP (n + 1) ms k q = itP n ms k p ∨ itP (n + 1) ms k q = itP n ms k p + 1
  | 0, _, _, _, h => h
  | k + 1, _, _, hp, h => itP_near k (stP_le ms hp) (stP_near ms hp h)
/-- how the longer run stands to the shorter one -/
inductive Near (s t : LS) : Prop where
  | more (hk : t.k = s.k + 1) (hD : t.D = s.D) (hp : t.p = s.p ∨ t.p = s.p + 1)
  | same (hk : t.k = s.k) (hD : t.D = s.D) (hp : t.p = s.p)
  | less (hk : t.k = s.k + 1) (j : Nat) (hj : j + 1 < s.D.length) (hD : t.D = s.D.eraseIdx j) (hp : t.p = s.p)
theorem take_erase (D : List Nat) (j m : Nat) (h : j < m) (hm : m ≤ D.length) : (D.eraseIdx j).take (m - 1) = (D.take m).eraseIdx j := by
  apply List.ext_getElem?
  intro i
  rw [List.getElem?_take, List.getElem?_eraseIdx, List.getElem?_eraseIdx, List.getElem?_take, List.getElem?_take]
  by_cases h1 : i < m - 1
  · rw [if_pos h1]
    by_cases h2 : i < j
    · rw [if_pos h2, if_pos h2, if_pos (by omega)]
    · rw [if_neg h2, if_neg h2, if_pos (by omega)]
  · rw [if_neg h1]
    by_cases h2 : i < j
    · omega
    · rw [if_neg h2, if_neg (by omega)]
theorem take_erase2 (D : List Nat) (j m : Nat) (h : m ≤ j) (h0 : 1 ≤ m) (hm : m ≤ D.length) : (D.eraseIdx j).take (m - 1) = (D.take m).eraseIdx (m - 1) := by
  apply List.ext_getElem?
  intro i
  rw [List.getElem?_take, List.getElem?_eraseIdx, List.getElem?_eraseIdx, List.getElem?_take, List.getElem?_take]
  by_cases h1 : i < m - 1
  · rw [if_pos h1, if_pos (by omega), if_pos h1, if_pos (by omega)]
  · rw [if_neg h1, if_neg h1, if_neg (by omega)]
theorem erase_app {D : List Nat} {j x : Nat} (h : j < D.length) : (D ++ [x]).eraseIdx j = D.eraseIdx j ++ [x] := List.eraseIdx_append_of_lt_length h _
theorem Near.cm {s t : LS} (hs : s.p ≤ s.size) (hi : t.i = s.i) (h : Near s t) (c : Cmd) : Near (s.cm c) (t.cm c) := by
  cases h with
  | more hk hD hp =>
    have hz : t.size = s.size + 1 := by
      unfold LS.size
      rw [hk, hD]
      omega
    cases c with
    | mv m =>
      refine .more hk hD ?_
      show mvP t.size t.p m = _ ∨ mvP t.size t.p m = _
      rw [hz]
      exact mvP_near m hs hp
    | rep n ms =>
      refine .more hk hD ?_
      show itP t.size ms n.toNat t.p = _ ∨ itP t.size ms n.toNat t.p = _
      rw [hz]
      exact itP_near _ hs hp
    | dd z =>
      rcases hp with hp | hp
      · by_cases hle : s.p ≤ s.k
        · refine .same ?_ ?_ ?_
          · show min t.k t.p = min s.k s.p
            omega
          · show t.D.take (t.p - min t.k t.p) ++ [t.i] = s.D.take (s.p - min s.k s.p) ++ [s.i]
            rw [hD, hi, show t.p - min t.k t.p = 0 from by omega, show s.p - min s.k s.p = 0 from by omega]
          · show t.p + 1 = s.p + 1
            omega
        · unfold LS.size at hs
          refine .less ?_ (s.p - s.k - 1) ?_ ?_ ?_
          · show min t.k t.p = min s.k s.p + 1
            omega
          · show s.p - s.k - 1 + 1 < (s.D.take (s.p - min s.k s.p) ++ [s.i]).length
            rw [List.length_append, List.length_take]
            simp
            omega
          · show t.D.take (t.p - min t.k t.p) ++ [t.i] = (s.D.take (s.p - min s.k s.p) ++ [s.i]).eraseIdx (s.p - s.k - 1)
            rw [hD, hi, show t.p - min t.k t.p = s.p - s.k - 1 from by omega, show s.p - min s.k s.p = s.p - s.k from by omega]
            rw [erase_app (by rw [List.length_take]; omega)]
            congr 1
            rw [← take_erase2 s.D (s.p - s.k) (s.p - s.k) (Nat.le_refl _) (by omega) (by omega)]
            apply List.ext_getElem?
            intro i
            rw [List.getElem?_take, List.getElem?_take, List.getElem?_eraseIdx]
            by_cases h1 : i < s.p - s.k - 1
            · rw [if_pos h1, if_pos h1, if_pos (by omega)]
            · rw [if_neg h1, if_neg h1]
          · show t.p + 1 = s.p + 1
            omega
      · refine .more ?_ ?_ ?_
        · show min t.k t.p = min s.k s.p + 1
          omega
        · show t.D.take (t.p - min t.k t.p) ++ [t.i] = s.D.take (s.p - min s.k s.p) ++ [s.i]
          rw [hD, hi, show t.p - min t.k t.p = s.p - min s.k s.p from by omega]
        · right
          show t.p + 1 = s.p + 1 + 1
          omega
  | same hk hD hp =>
    have hz : t.size = s.size := by
      unfold LS.size
      rw [hk, hD]
    have e : t = ⟨s.k, s.D, s.p, t.i⟩ := by
      cases t
      simp_all
    rw [e, hi]
    exact .same rfl rfl rfl
  | less hk j hj hD hp =>
    have hl : t.D.length = s.D.length - 1 := by
      rw [hD, List.length_eraseIdx, if_pos (by omega)]
    have hz : t.size = s.size := by
      unfold LS.size
      rw [hk, hl]
      omega
    cases c with
    | mv m =>
      refine .less hk j hj hD ?_
      show mvP t.size t.p m = mvP s.size s.p m
      rw [hz, hp]
    | rep n ms =>
      refine .less hk j hj hD ?_
      show itP t.size ms n.toNat t.p = itP s.size ms n.toNat s.p
      rw [hz, hp]
    | dd z =>
      by_cases hle : s.p ≤ s.k
      · refine .same ?_ ?_ ?_
        · show min t.k t.p = min s.k s.p
          omega
        · show t.D.take (t.p - min t.k t.p) ++ [t.i] = s.D.take (s.p - min s.k s.p) ++ [s.i]
          rw [hi, show t.p - min t.k t.p = 0 from by omega, show s.p - min s.k s.p = 0 from by omega]
          rfl
        · show t.p + 1 = s.p + 1
          omega
      · unfold LS.size at hs
        by_cases hjm : j < s.p - s.k
        · refine .less ?_ j ?_ ?_ ?_
          · show min t.k t.p = min s.k s.p + 1
            omega
          · show j + 1 < (s.D.take (s.p - min s.k s.p) ++ [s.i]).length
            rw [List.length_append, List.length_take]
            simp
            omega
          · show t.D.take (t.p - min t.k t.p) ++ [t.i] = (s.D.take (s.p - min s.k s.p) ++ [s.i]).eraseIdx j
            rw [hD, hi, show t.p - min t.k t.p = s.p - s.k - 1 from by omega, show s.p - min s.k s.p = s.p - s.k from by omega]
            rw [erase_app (by rw [List.length_take]; omega), take_erase s.D j _ hjm (by omega)]
          · show t.p + 1 = s.p + 1
            omega
        · refine .less ?_ (s.p - s.k - 1) ?_ ?_ ?_
          · show min t.k t.p = min s.k s.p + 1
            omega
          · show s.p - s.k - 1 + 1 < (s.D.take (s.p - min s.k s.p) ++ [s.i]).length
            rw [List.length_append, List.length_take]
            simp
            omega
          · show t.D.take (t.p - min t.k t.p) ++ [t.i] = (s.D.take (s.p - min s.k s.p) ++ [s.i]).eraseIdx (s.p - s.k - 1)
            rw [hD, hi, show t.p - min t.k t.p = s.p - s.k - 1 from by omega, show s.p - min s.k s.p = s.p - s.k from by omega]
            rw [erase_app (by rw [List.length_take]; omega), take_erase2 s.D j _ (by omega) (by omega) (by omega)]
          · show t.p + 1 = s.p + 1
            omega
theorem LS.i_cm (s t : LS) (h : t.i = s.i) (c : Cmd) : (t.cm c).i = (s.cm c).i := by
  cases c with
  | dd z =>
    show t.i + 1 = s.i + 1
    rw [h]
  | mv m => exact h
  | rep n ms => exact h
theorem near_run : ∀ (cs : List Cmd) {s t : LS}, s.p ≤ s.size → t.i = s.i → Near s t → Near (cs.foldl LS.cm s) (cs.foldl LS.cm t)
  | [], _, _, _, _, h => h
  | c :: cs, s, t, hs, hi, h => near_run cs (LS.ok_cm hs c) (LS.i_cm s t hi c) (h.cm hs hi c)
/-- the outcome for one item more comes of the outcome in one of four ways -/
theorem near_of (n : Nat) (cs : List Cmd) : Near (lsOf n cs) (lsOf (n + 1) cs) := near_run cs (Nat.le_add_right _ _) rfl (.more rfl rfl (.inr rfl))
end Und
/-! outcomes and words, as numbers and names -/
namespace Und
open PySem
def doN : List Cmd → List Str
  | [] => []
  | .dd z :: cs => z :: doN cs
  | .mv _ :: cs => doN cs
  | .rep _ _ :: cs => doN cs
theorem doN_app : ∀ as bs : List Cmd, doN (as ++ bs) = doN as ++ doN bs
  | [], _ => rfl
  | .dd z :: as, bs => by rw [List.cons_append, doN, doN, doN_app as bs, List.cons_append]
  | .mv _ :: as, bs => by rw [List.cons_append, doN, doN, doN_app as bs]
  | .rep _ _ :: as, bs => by rw [List.cons_append, doN, doN, doN_app as bs]
theorem doN_len : ∀ cs : List Cmd, (doN cs).length ≤ cs.length
  | [] => Nat.le_refl _
  | .dd z :: cs => Nat.succ_le_succ (doN_len cs)
  | .mv _ :: cs => Nat.le_succ_of_le (doN_len cs)
  | .rep _ _ :: cs => Nat.le_succ_of_le (doN_len cs)
theorem doN_name : ∀ {cs : List Cmd}, (∀ c ∈ cs, CmdOk c) → ∀ z ∈ doN cs, IsName z
  | [], _, z, hz => by cases hz
  | .dd y :: cs, h, z, hz => by
    rcases List.mem_cons.mp hz with rfl | hz
    · exact h (.dd z) List.mem_cons_self
    · exact doN_name (fun c hc => h c (List.mem_cons_of_mem _ hc)) z hz
  | .mv _ :: cs, h, z, hz => doN_name (fun c hc => h c (List.mem_cons_of_mem _ hc)) z hz
  | .rep _ _ :: cs, h, z, hz => doN_name (fun c hc => h c (List.mem_cons_of_mem _ hc)) z hz
/-- a state that can be -/
structure LS.Ok (s : LS) : Prop where
  p : s.p ≤ s.size
  D : ∀ j ∈ s.D, j < s.i
  asc : s.D.Pairwise (· < ·)
theorem LS.Ok.cm {s : LS} (h : s.Ok) (c : Cmd) : (s.cm c).Ok := by
  refine ⟨LS.ok_cm h.p c, ?_, ?_⟩
  · cases c with
    | dd z =>
      intro j hj
      show j < s.i + 1
      rcases List.mem_append.mp hj with hj | hj
      · have := h.D j (List.mem_of_mem_take hj)
        omega
      · have : j = s.i := by simpa using hj
        omega
    | mv m => exact h.D
    | rep t ms => exact h.D
  · cases c with
    | dd z =>
      show (s.D.take (s.p - min s.k s.p) ++ [s.i]).Pairwise (· < ·)
      rw [List.pairwise_append]
      refine ⟨h.asc.sublist (List.take_sublist _ _), List.pairwise_singleton _ _, fun a ha b hb => ?_⟩
      have := h.D a (List.mem_of_mem_take ha)
      have : b = s.i := by simpa using hb
      omega
    | mv m => exact h.asc
    | rep t ms => exact h.asc
theorem LS.Ok.run : ∀ (cs : List Cmd) {s : LS}, s.Ok → (cs.foldl LS.cm s).Ok
  | [], _, h => h
  | c :: cs, _, h => LS.Ok.run cs (h.cm c)
theorem ls_ok (n : Nat) (cs : List Cmd) : (lsOf n cs).Ok := LS.Ok.run cs ⟨Nat.le_add_right _ _, (fun j hj => nomatch hj), List.Pairwise.nil⟩
theorem asc_len' : ∀ (l : List Nat) (lo i : Nat), l.Pairwise (· < ·) → (∀ j ∈ l, lo ≤ j ∧ j < i) → l.length ≤ i - lo
  | [], _, _, _, _ => Nat.zero_le _
  | x :: r, lo, i, h, g => by
    have hx := g x List.mem_cons_self
    have h' := List.pairwise_cons.mp h
    have ih := asc_len' r (x + 1) i h'.2 fun j hj => ⟨h'.1 j hj, (g j (List.mem_cons_of_mem _ hj)).2⟩
    rw [List.length_cons]
    omega
theorem asc_len {l : List Nat} {i : Nat} (h : l.Pairwise (· < ·)) (g : ∀ j ∈ l, j < i) : l.length ≤ i := asc_len' l 0 i h fun j hj => ⟨Nat.zero_le _, g j hj⟩
theorem LS.size_cm {s : LS} (h : s.p ≤ s.size) (c : Cmd) : (s.cm c).size ≤ s.size + 1 := by
  cases c with
  | dd z =>
    show min s.k s.p + (s.D.take (s.p - min s.k s.p) ++ [s.i]).length ≤ s.k + s.D.length + 1
    rw [List.length_append, List.length_take]
    unfold LS.size at h
    simp
    omega
  | mv m => exact Nat.le_succ _
  | rep t ms => exact Nat.le_succ _
theorem LS.size_run : ∀ (cs : List Cmd) {s : LS}, s.p ≤ s.size → (cs.foldl LS.cm s).size ≤ s.size + cs.length
  | [], _, _ => Nat.le_refl _
  | c :: cs, s, h => by
    have a := LS.size_run cs (LS.ok_cm h c)
    have b := LS.size_cm h c
    rw [List.length_cons]
    show (cs.foldl LS.cm (s.cm c)).size ≤ _
    omega
theorem ls_size (n : Nat) (cs : List Cmd) : (lsOf n cs).size ≤ n + cs.length := LS.size_run cs (Nat.le_add_right _ _)
theorem ls_snoc (n : Nat) (cs : List Cmd) (c : Cmd) : lsOf n (cs ++ [c]) = (lsOf n cs).cm c := lsOf_app n cs [c]
theorem LS.i_run : ∀ (cs : List Cmd) (s : LS), (cs.foldl LS.cm s).i = s.i + (doN cs).length
  | [], _ => rfl
  | .dd z :: cs, s => by
    rw [List.foldl_cons, LS.i_run cs]
    show s.i + 1 + _ = s.i + ((doN cs).length + 1)
    omega
  | .mv m :: cs, s => by
    rw [List.foldl_cons, LS.i_run cs]
    rfl
  | .rep t ms :: cs, s => by
    rw [List.foldl_cons, LS.i_run cs]
    rfl
theorem ls_i (n : Nat) (cs : List Cmd) : (lsOf n cs).i = (doN cs).length := by
  rw [lsOf, LS.i_run]
  exact Nat.zero_add _
def LS.u (s : LS) : Nat := s.size - s.p
/-- the names of the items that are kept -/
def itN (n : Nat) (cs : List Cmd) : List Str := (lsOf n cs).D.map fun j => (doN cs).getD j Str.empty
theorem ls_at {n : Nat} {cs : List Cmd} {j : Nat} (h : j ∈ (lsOf n cs).D) : (doN cs)[j]? = some ((doN cs).getD j Str.empty) := by
  have h1 := (ls_ok n cs).D j h
  rw [ls_i] at h1
  rw [List.getElem?_eq_getElem h1, List.getD_eq_getElem?_getD, List.getElem?_eq_getElem h1]
  rfl
def wordOf (n : Nat) (cs : List Cmd) : Str :=
  if (lsOf (n + 1) cs).k = (lsOf n cs).k then "old" else if (lsOf (n + 1) cs).D.length < (lsOf n cs).D.length then "item" else if (lsOf n cs).u < (lsOf (n + 1) cs).u then "undone" else "keep"
/-- the head of a command -/
def cw : Cmd → Str
  | .dd _ => "do"
  | .mv m => wdM m.1
  | .rep _ _ => "repeat"
theorem cw_do : ∀ c : Cmd, (∀ z, c ≠ .dd z) → cw c ≠ "do"
  | .dd z, h => (h z rfl).elim
  | .mv m, _ => (by decide +kernel : ∀ b : Bool, wdM b ≠ "do") m.1
  | .rep _ _, _ => (by decide +kernel : ("repeat" : Str) ≠ "do")
end Und
/-! what a program tells, as data -/
namespace Und
open PySem PySem.Spec PyProof.Rows L2
section
variable {K : PySem.W.Frag} {H H' : Hp}
mutual
theorem dp_mono (s : Same H H') : ∀ (d : PyData) (v : V), Dp K H v d → Dp K H' v d
  | .none, _, h => by
    cases h
    exact .non
  | .bool b, _, h => by
    cases h
    exact .bl b
  | .int i, _, h => by
    cases h
    exact .int i
  | .str x, _, h => by
    cases h
    exact .str x
  | .list ds, _, h => by
    cases h with
    | lst a b => exact .lst (s.seq a) (dpAll_mono s ds _ b)
  | .tuple ds, _, h => by
    cases h with
    | tup a b => exact .tup (same_seqT s a) (dpAll_mono s ds _ b)
  | .dict _, _, h => by cases h
theorem dpAll_mono (s : Same H H') : ∀ (ds : List PyData) (vs : List V), DpAll K H vs ds → DpAll K H' vs ds
  | [], _, h => by
    cases h
    exact .nil
  | d :: ds, _, h => by
    cases h with
    | cons a b => exact .cons (dp_mono s d _ a) (dpAll_mono s ds _ b)
end
theorem Dp.mono {d : PyData} {v : V} (s : Same H H') (h : Dp K H v d) : Dp K H' v d := dp_mono s d v h
end
theorem sml_pg {cs : List Cmd} (h : ∀ c ∈ cs, CmdOk c) : Sml (pgT cs) := by
  cases cs with
  | nil => exact sml_of (by decide +kernel)
  | cons c cs =>
    intro x hx
    change x ∈ (Txt.join sepS ((c :: cs).map cmT)).cps.toList at hx
    rw [join_codes'] at hx
    refine sml_jc (by decide) (by decide) _ (fun z hz => ?_) x hx
    obtain ⟨d, hd, rfl⟩ := List.mem_map.mp hz
    exact sml_cm (h d hd)
theorem cm_lenF {c : Cmd} (h : CmdOk c) (f : FewC c) : (cmT c).length ≤ 4000 := by
  cases c with
  | dd z =>
    have h8 := h.hi
    have h2 : (Str.ofString "do").length = 2 := by decide +kernel
    show (Str.ofString "do" ++ sp1 ++ z : Str).length ≤ _
    rw [PySem.Str.length_append, PySem.Str.length_append, sp_len, h2]
    omega
  | mv m => exact Nat.le_trans (mv_len h) (by decide)
  | rep n ms =>
    obtain ⟨h1, h2, h3, h4⟩ := h
    have hl := nt_len (by omega : (0 : Int) ≤ n) h2
    have hj := join_len (a := 44) (b := 32) (mvs_len h4)
    have hm : ms.length ≤ 4 := f
    rw [List.length_map] at hj
    show (nt n ++ sp1 ++ (opnT ++ Txt.join sepC (ms.map mvT) ++ clsT) : Str).length ≤ _
    rw [PySem.Str.length_append, PySem.Str.length_append, PySem.Str.length_append, PySem.Str.length_append, sp_len, opn_len, cls_len]
    have : (Txt.join sepC (ms.map mvT)).length ≤ 2428 := Nat.le_trans hj (Nat.le_trans (Nat.mul_le_mul_left _ hm) (by decide))
    omega
theorem pg_lenF {cs : List Cmd} (h : ∀ c ∈ cs, CmdOk c) (f : ∀ c ∈ cs, FewC c) : (pgT cs).length ≤ 4002 * cs.length + 7 := by
  cases cs with
  | nil => exact (by decide +kernel : (Str.ofString "nothing").length ≤ 7)
  | cons c cs =>
    have := join_len (a := 59) (b := 32) (B := 4000) (xs := (c :: cs).map cmT) fun z hz => by
      obtain ⟨d, hd, rfl⟩ := List.mem_map.mp hz
      exact cm_lenF (h d hd) (f d hd)
    rw [List.length_map] at this
    exact Nat.le_trans this (by omega)
theorem shw_txt {x : Str} {n : Nat} (h : Sml x) (hl : x.length ≤ n) : Shw (.str x) (10 * n + 2) := by
  refine ⟨by rw [PyData.showable], ?_⟩
  rw [PyData.shown]
  have h1 := PySem.StrLaws.reprText_len x (fun c hc => Nat.lt_trans (h c hc) (by decide))
  omega
theorem shw_bool (b : Bool) : Shw (.bool b) 5 := by
  refine ⟨by rw [PyData.showable], ?_⟩
  rw [PyData.shown]
  cases b <;> decide
theorem textFrom_sum : ∀ (ts : List Str) (k : Nat) (acc : Str), (textFrom k acc ts).length ≤ acc.length + (ts.map fun t => t.length + 2).sum
  | [], _, _ => Nat.le_add_right _ _
  | t :: r, k, acc => by
    have ih := textFrom_sum r (k + 1) (acc ++ (if k > 0 then ", " else "" : String) ++ t)
    have e : (acc ++ (if k > 0 then ", " else "" : String) ++ t).length ≤ acc.length + 2 + t.length := by
      rw [PySem.Str.length_append, PySem.Str.length_append]
      have : (((if k > 0 then ", " else "" : String)) : Str).length ≤ 2 := by split <;> decide
      omega
    rw [List.map_cons, List.sum_cons]
    show (textFrom (k + 1) (acc ++ (if k > 0 then ", " else "" : String) ++ t) r).length ≤ _
    omega
theorem shw_list6 {a b c d e f : PyData} {na nb nc nd ne nf : Nat} (ha : Shw a na) (hb : Shw b nb) (hc : Shw c nc) (hd : Shw d nd) (he : Shw e ne) (hf : Shw f nf) : Shw (.list [a, b, c, d, e, f]) (na + nb + nc + nd + ne + nf + 14) := by
  refine ⟨?_, ?_⟩
  · simp only [PyData.showable, PyData.showableAll, ha.1, hb.1, hc.1, hd.1, he.1, hf.1, Bool.and_true, Bool.and_self]
  rw [PyData.shown]
  have h := textFrom_sum (PyData.shownAll [a, b, c, d, e, f]) 0 "["
  have ex : PyData.shownAll [a, b, c, d, e, f] = [a.shown, b.shown, c.shown, d.shown, e.shown, f.shown] := by simp only [PyData.shownAll]
  rw [ex] at h ⊢
  simp only [List.map_cons, List.map_nil, List.sum_cons, List.sum_nil] at h
  unfold listText
  have e1 : ((("[" : String) : Str)).length = 1 := rfl
  have e3 : ((("]" : String) : Str)).length = 1 := rfl
  rw [PySem.Str.length_append, e3]
  have := ha.2
  have := hb.2
  have := hc.2
  have := hd.2
  have := he.2
  have := hf.2
  omega
/-- what a program with these commands tells -/
def dAsk (cs : List Cmd) : PyData := .list [dCs cs, dNames (doN cs), .int (cs.length : Nat), .str (pgT cs), .str (Str.ofString "Program(" ++ nt (cs.length : Nat) ++ Str.ofString ")"), .bool (decide (0 < cs.length))]
theorem sml_prt (n : Nat) : Sml (Str.ofString "Program(" ++ nt n ++ Str.ofString ")") := Sml.app (Sml.app (sml_of (by decide +kernel)) (sml_nt (by omega))) (sml_of (by decide +kernel))
theorem dok_ask {cs : List Cmd} (h : ∀ c ∈ cs, CmdOk c) : DOk (dAsk cs) 5 := (dok_list (n := 4) fun d hd => by
  simp only [List.mem_cons, List.not_mem_nil, or_false] at hd
  rcases hd with rfl | rfl | rfl | rfl | rfl | rfl
  · exact dok_cs h
  · exact (dok_names fun z hz => (doN_name h z hz).low).mono (by decide)
  · exact (dok_int _).mono (by decide)
  · exact (dok_str (sml_ok (sml_pg h))).mono (by decide)
  · exact (dok_str (sml_ok (sml_prt _))).mono (by decide)
  · exact (dok_bool _).mono (by decide)).1
theorem shw_ask {cs : List Cmd} (h : ∀ c ∈ cs, CmdOk c) (f : ∀ c ∈ cs, FewC c) (hl : cs.length ≤ 600) : Shw (dAsk cs) (60000 * cs.length + 20000) := by
  have h1 : Shw (dCs cs) (15002 * cs.length + 3) := (shw_tuple (n := 15000) fun d hd => by
    obtain ⟨c, hc, rfl⟩ := List.mem_map.mp hd
    exact shw_cm (h c hc) (f c hc)).mono (by rw [List.length_map]; omega)
  have h2 : Shw (dNames (doN cs)) (84 * cs.length + 3) := (shw_tuple (n := 82) fun d hd => by
    obtain ⟨z, hz, rfl⟩ := List.mem_map.mp hd
    exact shw_name (doN_name h z hz)).mono (by have := doN_len cs; rw [List.length_map]; omega)
  have h3 : Shw (.int (cs.length : Nat)) 510 := shw_int (by omega) (Int.lt_of_le_of_lt (show ((cs.length : Nat) : Int) ≤ 600 by omega) (by decide +kernel))
  have h4 := shw_txt (sml_pg h) (pg_lenF h f)
  have hn : (nt (cs.length : Nat)).length ≤ 600 := nt_len (by omega) (Int.lt_of_le_of_lt (show ((cs.length : Nat) : Int) ≤ 600 by omega) (by decide +kernel))
  have h5 : Shw (.str (Str.ofString "Program(" ++ nt (cs.length : Nat) ++ Str.ofString ")")) (10 * 609 + 2) := shw_txt (sml_prt _) (by
    have a1 : (Str.ofString "Program(").length = 8 := by decide +kernel
    have a2 : (Str.ofString ")").length = 1 := by decide +kernel
    rw [PySem.Str.length_append, PySem.Str.length_append, a1, a2]
    omega)
  exact (shw_list6 h1 h2 h3 h4 h5 (shw_bool _)).mono (by omega)
end Und
/-! definitions that are called while an error is handled; repr of any value -/
namespace Und
open PySem PySem.Spec PyProof.Rows L2 PySem.HandSPX
open L2H (RoomH roomH_of)
theorem RoomH.units {k : Nat} {A : Around} (r : RoomH k A) : A.units + 64 < cLine := by
  have := r.un
  omega
theorem roomH_mark {k : Nat} {A : Around} {u : Option Value} (r : RoomH k A) : RoomH k (A.mark u) := ⟨r.dp, r.un⟩
theorem still_mark {A : Around} {u : Option Value} (h : Still A) : Still (A.mark u) := h
/-- a definition's promise, whether an error is handled or not -/
structure FnQ (P : Program) (w : World) (K : PySem.W.Frag) (mg : Str → Option Value) (base : Heap) (k : Nat) (f : Addr) (fd : FuncData) (ps : List Str) (sp : Sp) : Prop where
  n : ∀ vs H Q E, sp vs H Q E → vs.length = ps.length
  go : ∀ (A : Around), Still A → RoomH k A → ∀ (outer : List Env) (s : Shared) (H : Hp) (args : Args) (us : List Value) (vs : List V) (Q : VK) (E : XK), Env0 P w K mg base A outer s H → BindsTo s fd args (ps.zip us) → Vals vs us → sp vs H Q E →
    codeAny (model P w) A (.call (.ref f) args) (CR CX0 outer P w H s Q E) s
section
variable {P : Program} {w : World} {K : PySem.W.Frag} {mg : Str → Option Value} {base : Heap} {j k : Nat} {f : Addr} {fd : FuncData} {ps N : List Str} {sp : Sp} {x qual : Str} {st : Stmt}
theorem FnQ.toG (F : FnQ P w K mg base k f fd ps sp) : FnG P w K mg base CX0 k f fd ps sp := ⟨F.n, fun A g r => F.go A g (roomH_of r)⟩
theorem FnQ.mono (F : FnQ P w K mg base j f fd ps sp) (h : j ≤ k) : FnQ P w K mg base k f fd ps sp := ⟨F.n, fun A g r => F.go A g (r.mono h)⟩
/-- the body's context: nothing is said of what is handled -/
def cxQ (P : Program) (w : World) (K : PySem.W.Frag) (mg : Str → Option Value) (base : Heap) (N : List Str) (qual : Str) (scope : Scope) (f : Addr) (cd : Value) (A : Around) (outer : List Env) (s : Shared) (H : Hp) (E : XK) : Cx :=
  { cxOf CX0 P w K mg base N qual scope f cd A outer s H E with calm := false }
theorem okQ (F : Fun K x qual st f fd) (S : FnScope N ps (defScope st)) (n : ∀ vs H Q E, sp vs H Q E → vs.length = ps.length)
    (body : ∀ (cdv : Value) (A : Around) (outer : List Env) (s : Shared) (H : Hp) (vs : List V) (Q : VK) (E : XK), Still (A.deeper (envOfC qual (defScope st) s.heap.objs.size f cdv)) → RoomH k (A.deeper (envOfC qual (defScope st) s.heap.objs.size f cdv)) → sp vs H Q E →
      ∃ t, PSs (cxQ P w K mg base N qual (defScope st) f cdv A outer s H E).nox (defBody st) t ∧ t { nx := fun _ H' => Q .non H', rt := Q } (start N vs) H) : FnQ P w K mg base (k + 1) f fd ps sp := by
  obtain ⟨oc, od, kV, doc, pm, an, cdv, ct, osl, rfl, lk, hcd⟩ := F.ex
  refine ⟨n, fun A g r outer s H args us vs Q E e0 hb v h => ?_⟩
  have kin : K.In s.heap := e0.mod.kin.keeps fun b o e => (e0.bs b o e).1
  have noLim : s.heap.NoLimit := e0.mod.nolimit.keeps fun b o e => (e0.bs b o e).1
  have kinds : ∀ y ∈ ps.zip us, (defScope st).names.lookup y.1 = some .local ∨ ((defScope st).names.lookup y.1 = some .cell ∧ ((cellsFrom (s.heap.objs.size + 1) (defScope st).names []).lookup y.1).isSome = true) := fun ⟨n, v⟩ hy => by
    rcases S.par n (List.of_mem_zip hy).1 with q | q
    · exact .inl q
    · exact .inr ⟨q, PySem.W.cellsFrom_some _ _ _ (.inl q)⟩
  refine codeAny_call_function r.depth (kin _ _ lk) rfl S.co S.gen rfl (PySem.W.codeRec_of kin hcd) (hb _ _ _ _ ?_)
  refine wpAny_newFunctionEnv_cells S.kind kinds fun env he s1 xx => ?_
  subst he
  refine ⟨noLim.keeps xx.toInCall.keep, codeAny_func ?_⟩
  obtain ⟨t, ht, hq⟩ := body cdv A outer s H vs Q E g (r.deeper _) h
  have e1 : Env0 P w K mg base { A with handled := none } outer s H := ⟨e0.frames, e0.mod, e0.bs, e0.bsz, e0.funs, e0.frf, e0.hok, e0.bare⟩
  have J : Inv (cxOf CX0 P w K mg base N qual (defScope st) f cdv { A with handled := none } outer s H E) [] (start N vs) H s1 := inv_start S rfl e1 (n _ _ _ _ h) v xx
  have J2 : Inv (cxQ P w K mg base N qual (defScope st) f cdv A outer s H E) [] (start N vs) H s1 :=
    ⟨⟨J.ok.mod, J.ok.kind, J.ok.glob, J.ok.blt, J.ok.above, J.ok.inj, J.ok.has, J.ok.cab, (fun z => Bool.noConfusion (show false = true from z)), Around.frames_deeper e0.frames, J.ok.stk, J.ok.exf, J.ok.bs, J.ok.bsz, J.ok.noex, J.ok.exfs, J.ok.funs, J.ok.frf⟩,
      J.os, J.bare, J.base, J.loc, J.cell, J.free, J.freeC, J.pin, J.hok, J.len⟩
  refine wpAny_mono (ht.nox.run [] s1 (start N vs) H _ J2 hq) (fun fl s' hs => ?_) fun e s' hs => hs
  have fin : ∀ {σ' : L2.St} {H' : Hp} {v : V} {u : Value}, Inv (cxQ P w K mg base N qual (defScope st) f cdv A outer s H E) [] σ' H' s' → RelV v u → Q v H' → CE outer P w H s Q u s' :=
    fun {σ' H' v u} J rv q => ⟨v, H', J.os, J.bare, J.base, J.hok, rv, q⟩
  match fl, hs with
  | .ret u, ⟨v, σ', H', J, rv, q⟩ => exact fin J rv q
  | .next, ⟨σ', H', J, q⟩ => exact fin (v := V.non) (u := Value.none) J rfl q
  | .brk, ⟨_, _, _, q⟩ => exact False.elim q
  | .cont, ⟨_, _, _, q⟩ => exact False.elim q
end
section
variable {X : Cx} {k : Nat} {f : Addr} {fd : FuncData} {ps : List Str} {sp : Sp} {E : XK} {x : Str} {st : Stmt} {p pos : Pos} {e : Expr} {es : List Expr} {t : TA}
theorem callQ {pins : List (Addr × Obj)} {σ : L2.St} {H : Hp} {s : Shared} {Q : VK} {us : List Value} {vs : List V} (F : FnQ X.prog X.w X.K X.mg X.base k f fd ps sp) (g : Still X.A) (r : RoomH k X.A) (b : Binds X.K fd ps [])
    (I : Inv X pins σ H s) (v : Vals vs us) (h : sp vs H Q E) : wpAny (model X.prog X.w) X.A (call (.ref f) us) (EP X pins σ Q) X.xe s := by
  have hl : (us ++ []).length = ps.length := by
    rw [List.append_nil, ← v.length]
    exact F.n _ _ _ _ h
  have bb := b s us I.kIn hl
  rw [List.append_nil] at bb
  refine wpAny_call (codeAny_mono (F.go X.A g r X.stack s H ⟨us, []⟩ us vs Q E I.env0 bb v h) fun z s' q => ?_)
  match z, q with
  | .error e, q => exact (show False from q).elim
  | .ok (.ret u), q => exact I.after q
/-- f(e, ..) of such a definition -/
theorem pcallQ (D : FD X.K X.mg x st ps f fd) (F : FnQ X.prog X.w X.K X.mg X.base k f fd ps sp) (g : Still X.A) (r : RoomH k X.A) (hg : Gl X x) (ha : PA X (e :: es) t) (hdb : (x == ("__debug__" : Str)) = false := by decide)
    (he : starEach (e :: es) X.env = (false, eval e X.env) :: starEach es X.env := by rfl) (hpl : (backTo pos (starEach es X.env)).any (·.1) = false := by rfl) :
    PE X (.Call (.Name x p) (e :: es) [] pos) (tCall sp [] E t) :=
  ⟨fun pins s σ H Q I h => wpAny_Call_Name_kw (ld_glob I hg D.m (PySem.W.callWith_K (h₀ := X.base) I.ok.mod.kin D.F.kp (thn (ha.run pos pins s σ H _ I h) fun us s1 ⟨vs, H1, I1, v, q⟩ => ⟨I1.kIn, callQ F g r D.b I1 v (by have q' : sp (vs ++ []) H1 Q E := q; rw [List.append_nil] at q'; exact q')⟩) he hpl) hdb)⟩
end
/-! ### repr of any value -/
/-- v is printed as x -/
inductive Rp (K : PySem.W.Frag) (H : Hp) : V → Str → Prop
  | non : Rp K H .non "None"
  | bl (b : Bool) : Rp K H (.bl b) (if b then "True" else "False")
  | int (i : Int) (h : i.natAbs.log2 < 1920) : Rp K H (.int i) (toString i)
  | str (x : Str) (h : (reprText x).length ≤ sizeLine) : Rp K H (.str x) (reprText x)
  | dat (a : Addr) (d : PyData) (h : Dp K H (.ref a) d) (h1 : d.showable = true) (h2 : d.hasDict = false) (h3 : d.depth ≤ 32) (h4 : d.shown.length ≤ sizeLine) : Rp K H (.ref a) d.shown
  | emp (a : Addr) (h : H a = some (.dK [])) : Rp K H (.ref a) (PyData.dict []).shown
theorem Rp.mono {K : PySem.W.Frag} {H H' : Hp} {v : V} {x : Str} (s : Same H H') (h : Rp K H v x) : Rp K H' v x := by
  cases h with
  | non => exact .non
  | bl b => exact .bl b
  | int i h => exact .int i h
  | str x h => exact .str x h
  | dat a d h h1 h2 h3 h4 => exact .dat a d (dp_mono s d _ h) h1 h2 h3 h4
  | emp a h => exact .emp a (s _ _ h)
def crReprA (K : PySem.W.Frag) : List V → Hp → VK → Prop := fun xs H Q => ∃ v x, xs = [v] ∧ Rp K H v x ∧ Q (.str x) H
theorem crRA {X : Cx} {K : PySem.W.Frag} {k : Nat} (g : Still X.A) (r : RoomH k X.A) (hK : X.K = K := by rfl) : CallR X (.builtin "repr") (crReprA K) := by
  subst hK
  intro pins s σ H xs us Q I v h
  obtain ⟨v0, x, rfl, hr, q⟩ := h
  obtain ⟨u, rfl, ru⟩ := vals1 v
  have un := r.un
  cases hr with
  | non =>
    obtain rfl : u = Value.none := ru
    exact PySem.P.repr_of_none ⟨.str _, H, I.tok _, ⟨_, rfl⟩, q⟩
  | bl b =>
    obtain rfl : u = Value.bool b := ru
    exact PySem.P.repr_of_bool ⟨.str _, H, I.tok _, ⟨_, rfl⟩, q⟩
  | int i h =>
    obtain ⟨t, rfl⟩ := ru
    exact PySem.P.repr_of_int h ⟨.str _, H, I.tok _, ⟨_, rfl⟩, q⟩
  | str y h =>
    obtain ⟨t, rfl⟩ := ru
    exact PySem.P.repr_of_str ⟨.str _, H, I.tok _, ⟨_, rfl⟩, q⟩ h
  | dat a d hd h1 h2 h3 h4 =>
    obtain rfl : u = Value.ref a := ru
    obtain ⟨as, rd⟩ := Dp.reads I d _ (.ref a) hd rfl
    exact repr_of_reads' rd h1 (fun z => by rw [h2] at z; cases z) g (by omega) (fun _ _ e => e) (fun h' u tk k => ⟨.str d.shown, H, I.kept k, ⟨u, rfl⟩, q⟩) h4
  | emp a ha =>
    obtain rfl : u = Value.ref a := ru
    obtain ⟨_, hsm, vs, kv, o, es, ep, ho, hx, hd, _, hp, _⟩ := dk_of I.hok ha
    have nb : a ≠ sysModules := beq_eq_false_iff_ne.mp hsm
    cases kv
    have hes : es.toList = [] := by
      generalize es.toList = l at hp
      cases hp
      rfl
    have rd : Reads s.heap (.ref a) (.dict []) (a :: [] ++ []) := Reads.dict ho hx.1 hd (by rw [hes]; exact .nil) (by rw [hes]; exact .nil)
    refine repr_of_reads' rd (by decide +kernel) (fun _ z => ?_) g (by show X.A.units + (_ + 1) < _; have : (PyData.dict []).depth ≤ 32 := by decide +kernel
                                                                       omega) (fun _ _ e => e) (fun h' u tk k => ⟨.str _, H, I.kept k, ⟨u, rfl⟩, q⟩) (by decide +kernel)
    simp only [List.cons_append, List.nil_append, List.append_nil, List.mem_cons, List.not_mem_nil, or_false] at z
    exact nb z.symm
theorem c_reprA {K : PySem.W.Frag} {v : V} {x : Str} {H : Hp} {Q : VK} (h : Rp K H v x) (q : Q (.str x) H) : crReprA K [v] H Q := ⟨v, x, rfl, h, q⟩
end Und
/-! lambdas that are handed to a definition which calls them in a try; the tables of code objects -/
namespace Und
open PySem PySem.Spec PyProof.Rows L2 PySem.HandSPX LamX
open L2H (RoomH roomH_of)
/-! ### data stays, where tables grow -/
theorem dp_ext {K : PySem.W.Frag} {H H' : Hp} (s : ExtN H H') : ∀ (d : PyData) (v : V), Dp K H v d → Dp K H' v d := by
  have e1 : ∃ H0 : Hp, H0 = fun b => match H b with | some (.tbl _) => none | o => o := ⟨_, rfl⟩
  obtain ⟨H0, e0⟩ := e1
  have sm : Same H0 H' := fun b o e => by
    have e' : (match H b with | some (.tbl _) => none | o => o) = some o := by
      rw [e0] at e
      exact e
    split at e'
    · cases e'
    · rename_i h
      exact s b o e' fun ps z => h ps (by rw [e', z])
  have get : ∀ (b : Addr) (o : HO), H b = some o → (∀ ps, o ≠ .tbl ps) → H0 b = some o := fun b o e n => by
    rw [e0]
    show (match H b with | some (.tbl _) => none | o => o) = some o
    rw [e]
    split
    · rename_i ps z
      exact absurd (Option.some.inj z) (n ps)
    · rfl
  have sq : ∀ {a : Addr} {xs : List V}, SqL K H a xs → SqL K H0 a xs := fun {a xs} h => by
    rcases h with (h | ⟨o, h⟩) | h
    · exact .inl (.inl (get _ _ h fun ps z => by cases z))
    · exact .inl (.inr ⟨o, get _ _ h fun ps z => by cases z⟩)
    · exact .inr h
  have st : ∀ {a : Addr} {xs : List V}, SqT K H a xs → SqT K H0 a xs := fun {a xs} h => by
    rcases h with (h | ⟨o, h⟩) | h
    · exact .inl (.inl (get _ _ h fun ps z => by cases z))
    · exact .inl (.inr ⟨o, get _ _ h fun ps z => by cases z⟩)
    · exact .inr h
  have all : ∀ (d : PyData) (v : V), Dp K H v d → Dp K H0 v d := by
    intro d v h
    induction h using Dp.rec (motive_2 := fun xs ds _ => DpAll K H0 xs ds) with
    | non => exact .non
    | bl b => exact .bl b
    | int i => exact .int i
    | str x => exact .str x
    | lst e _ ih => exact .lst (sq e) ih
    | tup e _ ih => exact .tup (st e) ih
    | nil => exact .nil
    | cons _ _ i1 i2 => exact .cons i1 i2
  exact fun d v h => dp_mono sm d v (all d v h)
theorem ExtN.seq {K : PySem.W.Frag} {H H' : Hp} {a : Addr} {xs : List V} (s : ExtN H H') (h : SqL K H a xs) : SqL K H' a xs := by
  rcases h with (h | ⟨o, h⟩) | h
  · exact .inl (.inl (s _ _ h fun ps z => by cases z))
  · exact .inl (.inr ⟨o, s _ _ h fun ps z => by cases z⟩)
  · exact .inr h
theorem ExtN.seqT {K : PySem.W.Frag} {H H' : Hp} {a : Addr} {xs : List V} (s : ExtN H H') (h : SqT K H a xs) : SqT K H' a xs := by
  rcases h with (h | ⟨o, h⟩) | h
  · exact .inl (.inl (s _ _ h fun ps z => by cases z))
  · exact .inl (.inr ⟨o, s _ _ h fun ps z => by cases z⟩)
  · exact .inr h
theorem Rp.ext {K : PySem.W.Frag} {H H' : Hp} {v : V} {x : Str} (s : ExtN H H') (h : Rp K H v x) : Rp K H' v x := by
  cases h with
  | non => exact .non
  | bl b => exact .bl b
  | int i h => exact .int i h
  | str x h => exact .str x h
  | dat a d h h1 h2 h3 h4 => exact .dat a d (dp_ext s d _ h) h1 h2 h3 h4
  | emp a h => exact .emp a (s _ _ h fun ps z => by cases z)
/-! ### a definition that makes lambdas -/
structure FunC (K : PySem.W.Frag) (x : Str) (st : Stmt) (f : Addr) (fd : FuncData) (c : Addr) : Prop where
  ex : ∃ (oc : Value) (od : Option Addr) (kV doc pm : Value) (an : Option Addr) (ct : Value) (osl : Array (Option Value)),
    fd = PySem.W.fnOf x x (defArgs st) (defBody st) (defScope st) .none kV doc pm an (.ref c) ct ∧ K.lookup f = some ⟨oc, od, .func fd, osl⟩ ∧ PySem.W.codeIn K (.ref c) x = true
section
variable {P : Program} {w : World} {K : PySem.W.Frag} {mg : Str → Option Value} {base : Heap} {k : Nat} {f c : Addr} {fd : FuncData} {ps N : List Str} {sp : Sp} {x : Str} {st : Stmt}
theorem okC (F : FunC K x st f fd c) (S : FnScope N ps (defScope st)) (n : ∀ vs H Q E, sp vs H Q E → vs.length = ps.length)
    (body : ∀ (A : Around) (outer : List Env) (s : Shared) (H : Hp) (vs : List V) (Q : VK) (E : XK), Still (A.deeper (envOfC x (defScope st) s.heap.objs.size f (.ref c))) → Room k (A.deeper (envOfC x (defScope st) s.heap.objs.size f (.ref c))) → sp vs H Q E →
      ∃ t, PSs (cxOf CX0 P w K mg base N x (defScope st) f (.ref c) A outer s H E).nox (defBody st) t ∧ t { nx := fun _ H' => Q .non H', rt := Q } (start N vs) H) : FnG P w K mg base CX0 (k + 1) f fd ps sp := by
  obtain ⟨oc, od, kV, doc, pm, an, ct, osl, rfl, lk, hcd⟩ := F.ex
  exact ⟨n, fun A g r outer s H args us vs Q E e0 b v h => LamX.run_ofS lk hcd S r e0 b v (n _ _ _ _ h) fun r' => let ⟨t, p, q⟩ := body A outer s H vs Q E g r' h; ⟨t, p.nox, q⟩⟩
end
/-! ### what the definition with the try makes of a lambda -/
section
variable {X : Cx}
/-- the call of the lambda in the try's body -/
def tAct (tl : XK → Hp → VK → Prop) (f c' : Addr) (q : Str) (W : WX) : TE := fun σ H Q => ∃ Ech : XK, (∀ cls d σ' H', Ech cls d H' → W cls d σ' H') ∧ σ[0]? = some (some (.ref f)) ∧ H c' = some (CodeO c' q) ∧ tl Ech H Q
theorem pe_actW {X : Cx} {tl : XK → Hp → VK → Prop} {f c' : Addr} {q : Str} {W : WX} {e : Expr} (act : ∀ E : XK, (∀ cls d σ' H', E cls d H' → W cls d σ' H') → PE X e (fun σZ HZ Q => σZ[0]? = some (some (.ref f)) ∧ HZ c' = some (CodeO c' q) ∧ tl E HZ Q)) : PE X e (tAct tl f c' q W) := by
  refine ⟨fun pins s σ H Q I h => ?_⟩
  obtain ⟨Ech, hW, h1, h2, h3⟩ := h
  exact (act Ech hW).run pins s σ H Q I ⟨h1, h2, h3⟩
theorem c_act {tl : XK → Hp → VK → Prop} {f c' : Addr} {q : Str} {W : WX} {σ : L2.St} {H : Hp} {Q : VK} (Ech : XK) (hW : ∀ cls d σ' H', Ech cls d H' → W cls d σ' H') (h1 : σ[0]? = some (some (.ref f))) (h2 : H c' = some (CodeO c' q)) (h3 : tl Ech H Q) : tAct tl f c' q W σ H Q := ⟨Ech, hW, h1, h2, h3⟩
/-- x(lambda: body) -/
theorem lamD {T : List (Addr × Str)} {TT : (XK → Hp → VK → Prop) → Hp → VK → Prop} {x a : Str} {stg : Stmt} {g c P : Addr} {k : Nat} {fdg : FuncData} {Ng : List Str} {params : Arguments} {body : Expr} {scope : Scope} {t : XK → TE} {p lpos pos : Pos}
    (D : FD X.K X.mg x stg [a] g fdg) (Sg : FnScope Ng [a] (defScope stg)) (hNg : Ng[0]? = some a) (hva : Vis (defScope stg) a) (hG : ∀ cdv, GivesTo X Ng x (defScope stg) g cdv (defBody stg) a (X.env.qual ++ "<lambda>") TT)
    (TB : TabB X.base X.mg c P) (hcode : X.env.code = .ref c) (hmT : (P, X.env.qual ++ "<lambda>") ∈ T) (hu : ∀ p ∈ T, p.1 = P → p.2 = X.env.qual ++ "<lambda>") (hr : Room (k + 2) X.A) (hg : Gl X x) (L : LamS X.env.scope scope) (hdef : defaultsOf params X.env = ([], []))
    (hbind : ∀ (q : Str) (cl : List (Str × Addr)) (pm cv ctv : Value), bindArgs (PySem.W.kla_fn "<lambda>" q params body scope cl pm cv ctv) ⟨[], []⟩ = pure [])
    (hbody : ∀ (A : Around) (outer : List Env) (s : Shared) (H : Hp) (E : XK) (f c' : Addr), Room k (A.deeper (lamEnv X scope s.heap.objs.size f c')) → PE (lamCx X A outer s H E scope f c') body (t E))
    (hdb : (x == ("__debug__" : Str)) = false := by decide) (hd : (a == ("__debug__" : Str)) = false := by decide) (hcd : (a == ("__classdict__" : Str)) = false := by decide) :
    PE X (.Call (.Name x p) [.Lambda params body scope lpos] [] pos) (tLam T TT t) := by
  obtain ⟨oc, od, kV, doc, pm, an, cdv, ct, osl, rfl, lk, hcg⟩ := D.F.ex
  exact pe_lamcall hg D.m D.F.kp lk hcg D.b Sg hNg hva (hG cdv) TB hcode hmT hu hr L hdef hbind hbody hdb hd hcd
theorem c_lam {T : List (Addr × Str)} {TT : (XK → Hp → VK → Prop) → Hp → VK → Prop} {t : XK → TE} {σ : L2.St} {H : Hp} {Q : VK} (hT : Tabs T H) (h : ∀ H1, ExtN H H1 → Tabs T H1 → TT (fun E H' Q' => t E σ H' Q') H1 Q) : tLam T TT t σ H Q := ⟨hT, h⟩
end
/-! ### the law's own call, with tables -/
section
variable {P : Program} {w : World} {K : PySem.W.Frag} {mg mb : Str → Option Value} {CX : CXT} {k : Nat} {fa a : Addr} {cs : List (Addr × Addr)} {fd : FuncData} {x : Str} {sp : Sp} {s : Shared} {vs : List Value} {ns : List Int}
/-- how the script and the tables are seen -/
structure SeenT (K : PySem.W.Frag) (P : Program) (w : World) (s : Shared) (a : Addr) (ns : List Int) (ts : List Addr) (H : Hp) : Prop where
  only : ∀ b, H b = none ∨ b ∈ ts ∨ ∃ o xs, H b = some (.frz o (.lst xs))
  tab : ∀ b ∈ ts, H b = some (.tbl #[])
  seq : SqL K H a (ns.map V.int)
  ok : HOk P w H s.heap
  base : ∀ b o, s.heap.get? b = some o → H b = none ∨ (b = a ∧ K.lookup a = none) ∨ b ∈ ts
theorem seenT {ts : List Addr} (hT : ∀ b ∈ ts, s.heap.get? b = some { cls := .none, data := .fields #[] }) (KX : K.In s.heap) (ha : s.heap.get? a = some { cls := .type "list", data := .seq vs.toArray }) (hi : IntsAre vs ns) (hl : ns.length ≤ sizeLine) : ∃ H, SeenT K P w s a ns ts H := by
  obtain ⟨H0, S⟩ := seen (P := P) (w := w) KX ha hi hl
  have na : a ∉ ts := fun z => by
    have q := (hT a z).symm.trans ha
    have q' : Data.fields #[] = Data.seq vs.toArray _ := congrArg Obj.data (Option.some.inj q)
    cases q'
  have nF : ∀ b ∈ ts, H0 b = none := fun b hb => by
    rcases S.only b with h | ⟨o, xs, h⟩
    · exact h
    · obtain ⟨e, _, its, n, _, e2⟩ := S.ok b _ h
      have q := (hT b hb).symm.trans e2
      have q' : Data.fields #[] = Data.seq _ _ := congrArg Obj.data (Option.some.inj q)
      cases q'
  refine ⟨fun b => if b ∈ ts then some (.tbl #[]) else H0 b, fun b => ?_, fun b hb => if_pos hb, ?_, fun b u e => ?_, fun b o e => ?_⟩
  · by_cases hb : b ∈ ts
    · exact .inr (.inl hb)
    · rcases S.only b with h | ⟨o, xs, h⟩
      · exact .inl ((if_neg hb).trans h)
      · exact .inr (.inr ⟨o, xs, (if_neg hb).trans h⟩)
  · rcases S.seq with (h | ⟨o, h⟩) | h
    · exact .inl (.inl ((if_neg na).trans h))
    · exact .inl (.inr ⟨o, (if_neg na).trans h⟩)
    · exact .inr h
  · by_cases hb : b ∈ ts
    · have e' := (if_pos hb).symm.trans e
      cases e'
      exact hT b hb
    · have e' := (if_neg hb).symm.trans e
      rcases S.only b with h | ⟨o, xs, h⟩
      · rw [h] at e'
        cases e'
      · rw [h] at e'
        cases e'
        exact S.ok b _ h
  · by_cases hb : b ∈ ts
    · exact .inr (.inr hb)
    · rcases S.base b o e with h | h
      · exact .inl ((if_neg hb).trans h)
      · exact .inr (.inl h)
theorem SeenT.at {ts : List Addr} {H : Hp} {b : Addr} {o : Obj} (S : SeenT K P w s a ns ts H) (e : s.heap.get? b = some o) (n : K.lookup b ≠ none ∨ b ≠ a) (nt : b ∉ ts) : (hidT s.heap H).get? b = some o := by
  rcases S.base b o e with h | ⟨h, h'⟩ | h
  · exact hidT_get e h
  · rcases n with n | n
    · rw [h] at n
      exact absurd h' n
    · exact absurd h n
  · exact absurd h nt
/-- what the end has to know of the law's promise -/
structure LawT (P : Program) (w : World) (K : PySem.W.Frag) (CX : CXT) (k n : Nat) (x : Str) (mg : Str → Option Value) (fa : Addr) (h : Heap) (fd : FuncData) (cs : List (Addr × Addr)) (sp : Sp) : Prop where
  tab : ∀ p ∈ cs, h.get? p.2 = some { cls := .none, data := .fields #[] }
  out : ∀ p ∈ cs, K.lookup p.2 = none
  code : ∀ p ∈ cs, PySem.W.CodeHd h p.1 p.2
  bind : ∀ (s : Shared) (u : Value), BindsTo s fd ⟨[u], []⟩ [(x, u)]
  say : ∀ (H : Hp) (a : Addr) (ns : List Int), ns.length ≤ n → (∀ p ∈ cs, H p.2 = some (.tbl #[])) → SqL K H a (ns.map V.int) → sp [.ref a] H (fun v _ => v = .bl true) fun _ _ _ => False
  run : ∀ base : Heap, K.In base → base.Ns mainGlobals mg → (∀ p ∈ cs, TabB base mg p.1 p.2) → FnG P w K mg base CX k fa fd [x] sp
theorem law_callT {n : Nat} (KX : K.In s.heap) (hns : s.heap.Ns mainGlobals mg) (hb : s.heap.Ns builtinsNs mb) (hbb : ∀ x : Str, x ≠ "__name__" → mb x = bootBuiltins x) (hlim : s.heap.NoLimit) (hg : s.gens = #[])
    (hbm : ∃ (bm : Addr) (ob : Obj), mg "__builtins__" = some (.ref bm) ∧ bm ≠ builtinsNs ∧ s.heap.get? bm = some ob ∧ ob.cls = .type "module" ∧ ob.dict = some builtinsNs ∧ ob.data = .plain)
    (ha : s.heap.get? a = some { cls := .type "list", data := .seq vs.toArray }) (hi : IntsAre vs ns) (hl : ns.length ≤ n) (hn : n ≤ sizeLine) (hr : Room k callerA) (L : LawT P w K CX k n x mg fa s.heap fd cs sp) (hCX : ∀ H e s', CX [] H s (fun _ _ _ => False) e s' → False) :
    codeAny (model P w) callerA (.call (.ref fa) ⟨[.ref a], []⟩) (fun r s' => r = .ok (.ret (.bool true)) ∧ OldK s.heap s'.heap ∧ s'.os = s.os ∧ AllBare s'.gens) s := by
  have hT : ∀ b ∈ cs.map (·.2), s.heap.get? b = some { cls := .none, data := .fields #[] } := fun b hb => by
    obtain ⟨p, hp, rfl⟩ := List.mem_map.mp hb
    exact L.tab p hp
  obtain ⟨H, S⟩ := seenT (P := P) (w := w) hT KX ha hi (Nat.le_trans hl hn)
  have notT : ∀ {b : Addr} {o : Obj}, s.heap.get? b = some o → o.data ≠ .fields #[] → b ∉ cs.map (·.2) := fun {b o} e d z => by
    rw [hT b z] at e
    cases e
    exact d rfl
  have notA : ∀ {b : Addr} {o : Obj}, s.heap.get? b = some o → (∀ vs n, o.data ≠ .seq vs n) → b ≠ a := fun {b o} e d z => by
    rw [z, ha] at e
    cases e
    exact d _ _ rfl
  have kOut : ∀ b ∈ cs.map (·.2), K.lookup b = none := fun b hb => by
    obtain ⟨p, hp, rfl⟩ := List.mem_map.mp hb
    exact L.out p hp
  have names : ∀ {b : Addr} {m : Str → Option Value}, s.heap.Ns b m → (hidT s.heap H).Ns b m := fun {b m} ⟨o, es, ep, e, d, r⟩ => by
    refine ⟨o, es, ep, S.at e (.inr (notA e fun vs n z => ?_)) (notT e fun z => ?_), d, r⟩
    · rw [d] at z
      cases z
    · rw [d] at z
      cases z
  have kb : K.In (hidT s.heap H) := fun b o e => S.at (KX b o e) (.inl fun z => by rw [e] at z; cases z) fun z => by
    rw [kOut b z] at e
    cases e
  have mod : Mod K mg (hidT s.heap H) := ⟨kb, names hns, ⟨mb, names hb, hbb⟩, hlim.elim fun mc h => ⟨mc, names h.1, h.2⟩⟩
  have TB : ∀ p ∈ cs, TabB (hidT s.heap H) mg p.1 p.2 := fun p hp => by
    have at2 := L.tab p hp
    have gP : mainGlobals ≠ p.2 := fun z => by
      obtain ⟨o, es, ep, e, d, _⟩ := hns
      rw [z, at2] at e
      cases e
      cases d
    refine ⟨?_, ?_, gP⟩
    · obtain ⟨o, us, file, tf, fl, tg, inF, tx, tt, e1, r1, r2, r3, rest⟩ := L.code p hp
      refine ⟨o, us, file, tf, fl, tg, inF, tx, tt, S.at e1 (.inr (notA e1 fun vs n z => ?_)) (notT e1 fun z => ?_), r1, r2, r3, rest⟩
      · rw [r2] at z
        cases z
      · rw [r2] at z
        cases z
        simp at r3
    · obtain ⟨bm, ob, b1, b2, b3, b4, b5, b6⟩ := hbm
      have n1 : bm ≠ mainGlobals := fun z => by
        obtain ⟨o, es, ep, e, d, _⟩ := hns
        rw [z, e] at b3
        cases b3
        rw [d] at b6
        cases b6
      have n2 : bm ≠ p.2 := fun z => by
        rw [z, at2] at b3
        cases b3
        cases b6
      refine ⟨bm, ob, b1, b2, n1, n2, S.at b3 (.inr (notA b3 fun vs n z => ?_)) (notT b3 fun z => ?_), b4, b5, b6⟩
      · rw [b6] at z
        cases z
      · rw [b6] at z
        cases z
  have no : ∀ b : Addr, b ∉ frs ([] : List Env) := fun b z => nomatch (show b ∈ ([] : List Addr) from z)
  have e0 : Env0 P w K mg (hidT s.heap H) callerA [] s H := ⟨rfl, mod, fun _ _ => of_hidT, Nat.le_of_eq (hidT_size _ _), trivial, fun b z => absurd z (no b), S.ok, .of_eq hg⟩
  refine codeAny_mono ((L.run _ kb mod.glob TB).go callerA still_caller hr [] s H _ [.ref a] [.ref a] _ _ e0 (L.bind s (.ref a)) (.cons rfl .nil) (L.say H a ns hl (fun p hp => S.tab _ (List.mem_map.mpr ⟨p, hp, rfl⟩)) S.seq)) fun r s' h => ?_
  match r, h with
  | .error e, h => exact (hCX H e s' h).elim
  | .ok (.ret u), ⟨v, H', os, bare, un, ok', rv, (qv : v = .bl true)⟩ =>
    subst qv
    obtain rfl : u = Value.bool true := rv
    have kept : ∀ b o, b ∉ cs.map (·.2) → s.heap.get? b = some o → s'.heap.get? b = some o := fun b o nb e => by
      rcases S.only b with n | n | ⟨o', xs, n⟩
      · exact un.keep b o e n (no b) (by simp)
      · exact absurd n nb
      · have o1 := (S.ok b _ n).1
        have o2 := (ok' b _ (un.frzs b o' _ n)).1
        rw [e] at o1
        cases o1
        exact o2
    have grown : ∀ b ∈ cs.map (·.2), ∃ more : Array Value, s'.heap.get? b = some { cls := .none, data := .fields more } := fun b hb => by
      obtain ⟨more, z⟩ := un.tbls b #[] (S.tab b hb)
      exact ⟨_, ok' b _ z⟩
    refine ⟨rfl, ⟨fun b o e => ?_, fun b o e => ?_⟩, os, bare⟩
    · by_cases hb : b ∈ cs.map (·.2)
      · obtain ⟨more, hm⟩ := grown b hb
        obtain ⟨p, hp, rfl⟩ := List.mem_map.mp hb
        rw [L.tab p hp] at e
        cases e
        exact .inr (.inl ⟨((L.code p hp).tab (L.tab p hp)).isCodeTable, rfl, #[], more, rfl, by rw [Array.empty_append]; exact hm⟩)
      · exact .inl (kept b o hb e)
    · by_cases hb : b ∈ cs.map (·.2)
      · obtain ⟨more, hm⟩ := grown b hb
        exact ⟨_, hm⟩
      · exact ⟨o, kept b o hb e⟩
end
theorem walk_ofT {l : PySem.W.OpenLaw} {n k : Nat} {q : Program} {loose : List Str} {XP : (Str → Option Value) → Heap → Prop} {YP : World → Heap → Prop} {d : DefRec} {K : Params → PySem.W.Frag} {CX : World → CXT} {x : Str}
    (hn : l.most = some n) (hn2 : n ≤ sizeLine) (hdf : d.params.defaults = []) (hr : Room k callerA) (hY : ∀ (w : World) (h : Heap), YP w h → (K w.params).In h)
    (F : ∀ (w : World) (mg : Str → Option Value) (fa : Addr) (h : Heap), YP w h → (K w.params).In h → h.Ns mainGlobals mg → mg d.name = some (.ref fa) → ∃ fd cs sp, LawT l.prog w (K w.params) (CX w) k n x mg fa h fd cs sp)
    (hCX : ∀ (w : World) (H : Hp) (s : Shared) (e : Value) (s' : Shared), CX w [] H s (fun _ _ _ => False) e s' → False) :
    PySem.W.WalkO q loose XP YP l.row.toRowW d [] (fun f vs => PySem.call f vs) :=
  Att.attach_callB hn hdf fun w _ s mg mb fa _ _ _ _ a vs ns G Y _ _ _ hmg hobj hints hlen _ hg =>
    let KX := hY w _ Y
    let ⟨_, _, _, L⟩ := F w mg fa _ Y KX G.T.g hmg
    law_callT KX G.T.g G.T.b G.T.builtins G.T.nolimit hg G.T.bmain hobj hints hlen hn2 hr L fun H e s' => hCX w H s e s'
/-! ### what the written part says of a maker's code -/
/-- the object is a code object, its table at P -/
def codeOk (o : Obj) (c P : Addr) : Bool := PySem.W.codeHdIn [(c, o)] c P
def codeTab (o : Obj) : Option Addr := match o.data with
  | .fields vs => (match (vs[11]? : Option Value) with | some (.ref P) => some P | _ => none)
  | _ => none
theorem codeHd_of {K : PySem.W.Frag} {h : Heap} {c P : Addr} {o : Obj} (X : K.In h) (e : K.lookup c = some o) (k : codeOk o c P = true) : PySem.W.CodeHd h c P := by
  refine PySem.W.codeHd_of_K X ?_
  have e2 : List.lookup c [(c, o)] = some o := by simp
  unfold codeOk PySem.W.codeHdIn at k
  unfold PySem.W.codeHdIn
  rw [e]
  rw [e2] at k
  exact k
end Und
namespace Und
open PySem PySem.Spec PyProof.Rows L2 LamX
theorem _root_.L2H.RoomH.units {k : Nat} {A : Around} (r : L2H.RoomH k A) : A.units + 64 < cLine := by
  have := r.un
  omega
/-- the name of the lambdas that the definition x makes -/
abbrev lamQ (x : Str) : Str := (x ++ ".<locals>.") ++ "<lambda>"
/-- what a definition that makes lambdas leans on -/
structure LTab (base : Heap) (mg : Str → Option Value) (Ts : List (Addr × Str)) (x : Str) (c P : Addr) : Prop where
  tb : TabB base mg c P
  mem : (P, lamQ x) ∈ Ts
  uq : ∀ p ∈ Ts, p.1 = P → p.2 = lamQ x
theorem tabs0 {Ts : List (Addr × Str)} {H : Hp} (h : ∀ p ∈ Ts, H p.1 = some (.tbl #[])) : Tabs Ts H := fun p hp => TabS.nil (h p hp)
theorem tab_uq : ∀ {Ts : List (Addr × Str)} {P : Addr} {q : Str}, (Ts.Pairwise fun a b => a.1 ≠ b.1) → (P, q) ∈ Ts → ∀ p ∈ Ts, p.1 = P → p.2 = q
  | [], _, _, _, h, _, _, _ => by cases h
  | a :: r, P, q, pw, h, p, hp, e => by
    obtain ⟨h1, h2⟩ := List.pairwise_cons.mp pw
    rcases List.mem_cons.mp h with h | h
    · rcases List.mem_cons.mp hp with hp | hp
      · rw [hp, ← h]
      · have := h1 p hp
        rw [← h] at this
        exact absurd e.symm this
    · rcases List.mem_cons.mp hp with hp | hp
      · have := h1 _ h
        rw [← hp] at this
        exact absurd e this
      · exact tab_uq h2 h p hp e
theorem c_try {K : PySem.W.Frag} {cs : List Value} {i n : Nat} {tb : WX → TS} {ts : TS} {D : Ends} {σ : L2.St} {H : Hp} (h : tb (wT K cs i n ts D) D σ H) : tTry K cs i n tb ts D σ H := h
end Und
/-! draws, comprehensions and the law's end where tables grow -/
namespace Und
open PySem PySem.Spec PyProof.Rows L2 LamX
/-- the pool is drawn from, tables grow -/
structure StpN (p : Addr) (H H' : Hp) : Prop where
  s : ExtN (hid p H) (hid p H')
  q : Pool H' p
section
variable {p a : Addr} {H H' H2 : Hp} {T : List (Addr × Str)}
theorem Pool.noT (q : Pool H p) : ∀ ps, H p ≠ some (.tbl ps) := fun ps z => by
  obtain ⟨a, b, c, e, _⟩ := q
  rw [e] at z
  cases z
theorem StpN.of (s : Stp p H H') : StpN p H H' := ⟨.of s.s, s.q⟩
theorem StpN.ext (q : Pool H p) (e : ExtN H H') : StpN p H H' := by
  refine ⟨fun b o h n => ?_, ?_⟩
  · by_cases hb : b = p
    · rw [hb] at h
      unfold hid at h
      rw [if_pos rfl] at h
      cases h
    · rw [hid_ne hb] at h ⊢
      exact e _ _ h n
  · obtain ⟨x, y, z, e1, r⟩ := q
    exact ⟨x, y, z, e _ _ e1 (fun ps z => by cases z), r⟩
theorem StpN.trans (s : StpN p H H') (t : StpN p H' H2) : StpN p H H2 := ⟨ExtN.trans s.s t.s, t.q⟩
theorem StpN.refl (q : Pool H p) : StpN p H H := ⟨.refl _, q⟩
theorem StpN.at {o : HO} (s : StpN p H H') (e : H a = some o) (ne : p ≠ a) (n : ∀ ps, o ≠ .tbl ps) : H' a = some o := by
  have h := s.s a o ((hid_ne ne.symm).trans e) n
  rwa [hid_ne ne.symm] at h
theorem tabs_hid (q : Pool H p) (t : Tabs T H) : Tabs T (hid p H) := fun x hx => by
  obtain ⟨ps, h1, h2, h3⟩ := t x hx
  have n1 : x.1 ≠ p := fun z => by
    rw [z] at h1
    exact q.noT ps h1
  refine ⟨ps, (hid_ne n1).trans h1, h2, fun pos cv hc => ?_⟩
  obtain ⟨c, e1, e2⟩ := h3 pos cv hc
  refine ⟨c, e1, (hid_ne fun z => ?_).trans e2⟩
  rw [z] at e2
  obtain ⟨x, y, w, e3, _⟩ := q
  rw [e3] at e2
  unfold CodeO at e2
  cases e2
theorem tabs_stp (q : Pool H p) (s : Stp p H H') (t : Tabs T H) : Tabs T H' := ((tabs_hid q t).ext s.s).ext (hid_same p H')
/-- an object that is neither a table nor a code object is laid or changed -/
theorem tabs_put {D : Addr} {l l' : List V} (t : Tabs T H) (e : H D = some (.lst l) ∨ H D = none) : Tabs T (upd H D (.lst l')) := fun x hx => by
  obtain ⟨ps, h1, h2, h3⟩ := t x hx
  have no : ∀ {b : Addr} {o : HO}, H b = some o → (∀ l, o ≠ .lst l) → b ≠ D := fun {b o} h n z => by
    rcases e with e | e
    · rw [z, e] at h
      exact n _ (Option.some.inj h).symm
    · rw [z, e] at h
      cases h
  refine ⟨ps, (upd_ne (no h1 fun l z => by cases z)).trans h1, h2, fun pos cv hc => ?_⟩
  obtain ⟨c, e1, e2⟩ := h3 pos cv hc
  exact ⟨c, e1, (upd_ne (no e2 fun l z => by
    unfold CodeO at z
    cases z)).trans e2⟩
theorem extN_put {D : Addr} {o : HO} (s : ExtN H H') (nD : H D = none) : ExtN H (upd H' D o) := fun b u e n => by
  rw [upd_ne (ne_of_none e nD)]
  exact s b u e n
end
section
variable {te : TE} {i0 n : Nat} {vs : List Nat} {σ : L2.St} {H1 : Hp} {D : Addr} {Qd : Hp → Prop} {T : List (Addr × Str)}
/-- a comprehension over range(n), tables grow on the way -/
theorem lc_rgT (R : Nat → V → Prop) (t1 : Tabs T H1) (nD : H1 D = none) (hn : n ≤ 100000) (hw : ∀ v, wipe ((wipe σ vs).set i0 (some v)) vs = wipe σ vs)
    (hs : ∀ i H (Q' : VK), i < n → ExtN H1 H → Tabs T H → (∀ y H4, ExtN H H4 → Tabs T H4 → R i y → Q' y H4) → te ((wipe σ vs).set i0 (some (.int (i : Int)))) H Q')
    (hd : ∀ H xs, ExtN H1 H → Tabs T H → H D = some (.lst xs) → xs.length = n → (∀ i y, xs[i]? = some y → R i y) → Qd H) : LcW (Itr 0 n) te (gName i0) tYes vs σ H1 D Qd := by
  refine lc_range (fun i H => ExtN H1 H ∧ Tabs T H ∧ Acc R D i H) ⟨.of (same_new nD), tabs_put (l := []) t1 (.inr nD), [], upd_same, rfl, fun j y e => by simp at e⟩ (fun i H hi h => ?_) (fun H h => ?_)
  · obtain ⟨st, tt, xs, e, l, r⟩ := h
    refine ⟨hw _, c_yes ?_⟩
    rw [if_pos rfl]
    rw [Int.zero_add]
    refine hs i H _ hi st tt fun y H4 s4 t4 ry => ?_
    have e4 := s4 _ _ e fun ps z => by cases z
    exact ⟨xs, e4, szl (by omega), extN_put (ExtN.trans st s4) nD, tabs_put t4 (.inl e4), Acc.put l r ry⟩
  · obtain ⟨st, tt, xs, e, l, r⟩ := h
    exact hd H xs st tt e l r
end
theorem Pool.neS {p f : Addr} {H : Hp} {ns : List Str} (q : Pool H p) (e : H f = some (.lst (ns.map V.str))) : p ≠ f := fun z => by
  obtain ⟨a, b, c, e2, _⟩ := q
  rw [z, e] at e2
  have := HO.lst.inj (Option.some.inj e2)
  cases ns with
  | nil => cases this
  | cons x r => cases this
end Und
namespace Und
open PySem PySem.Spec PyProof.Rows L2
/-- x is b, of an int or a truth value -/
def rIsBV : R2 := fun x y H Q => ∃ b : Bool, y = .bl b ∧ ((∃ a : Bool, x = .bl a ∧ Q (.bl (decide (a = b))) H) ∨ ∃ i : Int, x = .int i ∧ Q (.bl false) H)
theorem opIsBV {X : Cx} : OpR X (compareOp .Is) rIsBV := by
  intro pins s σ H x y v u Q I rx ry h
  obtain ⟨b, rfl, h⟩ := h
  cases (show u = Value.bool b from ry)
  rcases h with ⟨a, rfl, q⟩ | ⟨i, rfl, q⟩
  · cases (show v = Value.bool a from rx)
    by_cases e : a = b
    · subst e
      exact wpAny_is_self rfl ⟨.bl true, H, I, rfl, by simpa using q⟩
    · exact wpAny_is_other rfl (fun z => e (Value.bool.inj z)) ⟨.bl false, H, I, rfl, by simpa [e] using q⟩
  · obtain ⟨t, rfl⟩ := rx
    exact wpAny_is_other rfl (fun z => by cases z) ⟨.bl false, H, I, rfl, q⟩
theorem c_isBI {b : Bool} {i : Int} {H : Hp} {Q : VK} (q : Q (.bl false) H) : rIsBV (.int i) (.bl b) H Q := ⟨b, rfl, .inr ⟨i, rfl, q⟩⟩
theorem c_isBB {a b : Bool} {H : Hp} {Q : VK} (q : Q (.bl (decide (a = b))) H) : rIsBV (.bl a) (.bl b) H Q := ⟨b, rfl, .inl ⟨a, rfl, q⟩⟩
end Und
namespace Und
open PySem PySem.Spec PyProof.Rows L2
theorem opRepT {X : Cx} {K : PySem.W.Frag} (h : X.K = K := by rfl) : OpR X (binaryOp .Mult) (rRepT K) := h ▸ op_repT
theorem c_repT {K : PySem.W.Frag} {a : Addr} {xs : List V} {k : Nat} {H : Hp} {Q : VK} (e : SqT K H a xs) (h0 : xs ≠ []) (h1 : 2 ≤ k ∧ k ≤ 1000) (h2 : xs.length ≤ 1000) (h : ∀ p H2, Same H H2 → H2 p = some (.tup (List.replicate k xs).flatten) → Q (.ref p) H2) : rRepT K (.ref a) (.int (k : Int)) H Q :=
  ⟨a, k, xs, rfl, rfl, e, h0, by omega, by omega, h2, fun p np => h p _ (same_new np) (by rw [upd_same]; rfl)⟩
theorem c_repL {a : Addr} {xs : List V} {k : Nat} {H : Hp} {Q : VK} (e : H a = some (.lst xs)) (h1 : k ≤ 1000 ∧ xs.length ≤ 1000) (h : ∀ p H2, Same H H2 → H2 p = some (.lst (List.replicate k xs).flatten) → Q (.ref p) H2) : rRep (.ref a) (.int (k : Int)) H Q :=
  ⟨a, k, xs, rfl, rfl, e, by omega, by omega, Nat.le_trans (Nat.mul_le_mul h1.2 h1.1) (by decide), fun p np => h p _ (same_new np) (by rw [upd_same]; rfl)⟩
end Und
/-! defs with *names and one keyword-only parameter that has a default; classes made by them -/
namespace Und
open PySem PySem.Spec PyProof.Rows L2
/-- a def f(a, .., *v, q=d): what stands behind the top, and what its two kinds of calls bind -/
structure FunSK (K : PySem.W.Frag) (name qual : Str) (st : Stmt) (ps : List Str) (q pv : Str) (dv : V) (f : Addr) : Prop where
  ex : ∃ (oc : Value) (od : Option Addr) (doc pm : Value) (D : Addr) (an : Option Addr) (cdv ct : Value) (osl : Array (Option Value)) (d : Value),
    K.lookup f = some ⟨oc, od, .func (PySem.W.fnOf name qual (defArgs st) (defBody st) (defScope st) .none (.ref D) doc pm an cdv ct), osl⟩ ∧ PySem.W.codeIn K cdv qual = true ∧ PySem.W.nsIn K D q = some (some d) ∧ RelV dv d ∧
    (∀ us rest : List Value, us.length = ps.length → ∃ (β γ : Type) (k1 : Option Value → Sem β) (k2 : β → Sem γ) (k3 : γ → Sem (List (Str × Value))) (a : β),
      bindArgs (PySem.W.fnOf name qual (defArgs st) (defBody st) (defScope st) .none (.ref D) doc pm an cdv ct) ⟨us ++ rest, []⟩ = ((nsGet D q >>= k1) >>= k2) >>= k3 ∧ k1 (some d) = pure a ∧
      (k2 a >>= k3) = (newTuple rest >>= fun t => pure (ps.zip us ++ [(q, d), (pv, t)]))) ∧
    (∀ (us : List Value) (v : Value), us.length = ps.length → bindArgs (PySem.W.fnOf name qual (defArgs st) (defBody st) (defScope st) .none (.ref D) doc pm an cdv ct) ⟨us, [(q, v)]⟩ = (newTuple [] >>= fun t => pure (ps.zip us ++ [(q, v), (pv, t)])))
  kp : PySem.W.keepIn K (.ref f) = true
def spStarK (n : Nat) (dv : V) (sp : Sp) : Sp := fun vs H Q E => ∃ ws rest, vs = ws ++ rest ∧ ws.length = n ∧ rest.length ≤ sizeLine ∧ ∀ p, H p = none → sp (ws ++ [dv, V.ref p]) (upd H p (.tup rest)) Q E
def spStarKW (n : Nat) (sp : Sp) : Sp := fun vs H Q E => ∃ ws x, vs = ws ++ [x] ∧ ws.length = n ∧ ∀ p, H p = none → sp (ws ++ [x, V.ref p]) (upd H p (.tup [])) Q E
/-- called with positional values and the one keyword -/
def FnRK (P : Program) (w : World) (K : PySem.W.Frag) (mg : Str → Option Value) (base : Heap) (CX : CXT) (k : Nat) (f : Addr) (q : Str) (sp : Sp) : Prop :=
  ∀ (A : Around) (outer : List Env) (s : Shared) (H : Hp) (us : List Value) (v : Value) (vs : List V) (x : V) (Q : VK) (E : XK), Room k A → Env0 P w K mg base A outer s H → Vals vs us → RelV x v → sp (vs ++ [x]) H Q E →
    codeAny (model P w) A (.call (.ref f) ⟨us, [(q, v)]⟩) (CR CX outer P w H s Q E) s
section
variable {P : Program} {w : World} {K : PySem.W.Frag} {mg : Str → Option Value} {base : Heap}
theorem FunSK.ok {name qual q pv : Str} {st : Stmt} {ps N : List Str} {dv : V} {f : Addr} {k : Nat} {sp : Sp} (F : FunSK K name qual st ps q pv dv f) (S : FnScope N (ps ++ [q, pv]) (defScope st))
    (hbody : ∀ (cdv : Value) (A : Around) (outer : List Env) (s : Shared) (H : Hp) (vs : List V) (Q : VK) (E : XK), Room k (A.deeper (envOfC qual (defScope st) s.heap.objs.size f cdv)) → sp vs H Q E →
      ∃ t, PSs (cxOf CX0 P w K mg base N qual (defScope st) f cdv A outer s H E).nox (defBody st) t ∧ t { nx := fun _ H' => Q .non H', rt := Q } (start N vs) H) :
    FnR P w K mg base CX0 (k + 1) f (spStarK ps.length dv sp) ∧ FnRK P w K mg base CX0 (k + 1) f q (spStarKW ps.length sp) := by
  obtain ⟨oc, od, doc, pm, D, an, cdv, ct, osl, d, lk, hcd, hd, rd, hA, hB⟩ := F.ex
  have body : ∀ (A : Around) (outer : List Env) (s : Shared) (H : Hp) (vs : List V) (Q : VK) (E : XK), Room k (A.deeper (envOfC qual (defScope st) s.heap.objs.size f cdv)) → sp vs H Q E →
      ∃ t, PSs (cxOf CX0 P w K mg base N qual (defScope st) f cdv A outer s H E) (defBody st) t ∧ t { nx := fun _ H' => Q .non H', rt := Q } (start N vs) H := fun A outer s H vs Q E hr hsp => by
    obtain ⟨t, h, q⟩ := hbody cdv A outer s H vs Q E hr hsp
    exact ⟨t, h.nox, q⟩
  refine ⟨fun A outer s H us vs Q E hr e0 r hsp => ?_, fun A outer s H us v vs x Q E hr e0 r rx hsp => ?_⟩
  · obtain ⟨ws, rest, ev, hl, hz, hq⟩ := hsp
    subst ev
    obtain ⟨u1, u2, eu, r1, r2⟩ := StX.vals_split r
    subst eu
    have hn : H s.heap.objs.size = Option.none := e0.hok.fresh (Nat.le_refl _)
    have hl1 : u1.length = ps.length := by rw [← r1.length]; exact hl
    have hl2 : u2.length ≤ sizeLine := by rw [← r2.length]; exact hz
    refine StX.run_bnd lk hcd S hr e0 (G := fun xs H2 => ∃ p, H p = Option.none ∧ xs = ws ++ [dv, V.ref p] ∧ H2 = upd H p (.tup rest)) (fun A' Ex Q' h => ?_) fun s2 H2 xs ⟨p, hp, ex, eH⟩ hr' => ?_
    · obtain ⟨β, γ, k1, k2, k3, a, e1, e2, e3⟩ := hA u1 u2 hl1
      have KX : K.In s.heap := e0.mod.kin.keeps fun b o e => (e0.bs b o e).1
      have L : PySem.W.Looks (model P w) s.heap (nsGet D q >>= k1) a := (PySem.W.looks_nsIn KX hd).andThen (PySem.W.Looks.of_pure e2)
      rw [e1, bind_assoc]
      refine wpAny_bind (L.here ?_)
      show wpAny (model P w) A' (k2 a >>= k3) Q' Ex s
      rw [e3]
      refine wpAny_bind (wpAny_newTuple (wpAny_pure ?_) hl2)
      have new : ObjOk P w (upd H s.heap.objs.size (.tup rest)) (s.heap.push ({ cls := .type "tuple", data := .seq u2.toArray } : Obj)) s.heap.objs.size (.tup rest) := ⟨hz, u2, r2, ⟨_, Heap.get?_push_size _ rfl, rfl, _, rfl⟩⟩
      have un := StX.un_laid (fs := frs outer) (s := s) (o := ({ cls := .type "tuple", data := .seq u2.toArray } : Obj)) (u := .tup rest) hn
      have z := h _ _ (ws ++ [dv, V.ref s.heap.objs.size]) (u1 ++ [d, Value.ref s.heap.objs.size]) (StX.env0_laid e0 new) un rfl (fun e s' z => z) (r1.append (.cons rd (.cons rfl .nil)))
        (by rw [List.length_append, List.length_append, hl] <;> rfl) ⟨_, hn, rfl, rfl⟩
      rw [List.zip_append hl1.symm] at z
      exact z
    · subst ex eH
      exact body A outer s2 _ _ Q E hr' (hq p hp)
  · obtain ⟨ws, y, ev, hl, hq⟩ := hsp
    obtain ⟨rfl, e2⟩ := List.append_inj' ev rfl
    obtain rfl : x = y := by simpa using e2
    have hn : H s.heap.objs.size = Option.none := e0.hok.fresh (Nat.le_refl _)
    have hl1 : us.length = ps.length := by rw [← r.length]; exact hl
    refine StX.run_bnd lk hcd S hr e0 (G := fun xs H2 => ∃ p, H p = Option.none ∧ xs = vs ++ [x, V.ref p] ∧ H2 = upd H p (.tup [])) (fun A' Ex Q' h => ?_) fun s2 H2 xs ⟨p, hp, ex, eH⟩ hr' => ?_
    · rw [hB us v hl1]
      refine wpAny_bind (wpAny_newTuple (wpAny_pure ?_) (Nat.zero_le _))
      have new : ObjOk P w (upd H s.heap.objs.size (.tup [])) (s.heap.push ({ cls := .type "tuple", data := .seq #[] } : Obj)) s.heap.objs.size (.tup []) := ⟨Nat.zero_le _, [], .nil, ⟨_, Heap.get?_push_size _ rfl, rfl, _, rfl⟩⟩
      have un := StX.un_laid (fs := frs outer) (s := s) (o := ({ cls := .type "tuple", data := .seq #[] } : Obj)) (u := .tup []) hn
      have z := h _ _ (vs ++ [x, V.ref s.heap.objs.size]) (us ++ [v, Value.ref s.heap.objs.size]) (StX.env0_laid e0 new) un rfl (fun e s' z => z) (r.append (.cons rx (.cons rfl .nil)))
        (by rw [List.length_append, List.length_append, hl] <;> rfl) ⟨_, hn, rfl, rfl⟩
      rw [List.zip_append hl1.symm] at z
      exact z
    · subst ex eH
      exact body A outer s2 _ _ Q E hr' (hq p hp)
end
/-- C(q = e): a new instance and its dict, then __init__ -/
def rMkRK (C : Addr) (sp : Sp) (E : XK) (vs : List V) (H : Hp) (Q : VK) : Prop := ∃ z, vs = [z] ∧ ∀ x dx, H x = none → H dx = none → dx ≠ x → sp [V.ref x, z] (upd (upd H dx (.own x)) x (.ins C dx [])) (fun v H2 => v = .non ∧ Q (.ref x) H2) E
def tMakeRK (C : Addr) (sp : Sp) (E : XK) (t : TA) : TE := fun σ H Q => t σ H fun vs H1 => rMkRK C sp E vs H1 Q
theorem c_makeRK {C : Addr} {sp : Sp} {E : XK} {t : TA} {σ : L2.St} {H : Hp} {Q : VK} (h : t σ H fun vs H1 => rMkRK C sp E vs H1 Q) : tMakeRK C sp E t σ H Q := h
section
variable {X : Cx} {CX : CXT} {k : Nat} {f C : Addr} {sp : Sp} {E : XK} {x q : Str} {kws : List Keyword} {tk : TA} {p pos : Pos}
theorem run_makeRK {pins : List (Addr × Obj)} {σ : L2.St} {H : Hp} {s : Shared} {Q : VK} {z : V} {v : Value} (M : Mk X.K C f) (F : FnRK X.prog X.w X.K X.mg X.base CX k f q sp) (hr : Room (k + 1) X.A) (hx : Passes CX X E) (I : Inv X pins σ H s) (rz : RelV z v)
    (h : ∀ x dx, H x = Option.none → H dx = Option.none → dx ≠ x → sp [V.ref x, z] (upd (upd H dx (.own x)) x (.ins C dx [])) (fun v H2 => v = .non ∧ Q (.ref x) H2) E) :
    wpAny (model X.prog X.w) X.A (call (.ref C) [] [(q, v)]) (EP X pins σ Q) X.xe s := by
  have hq := h (s.heap.objs.size + 1) s.heap.objs.size (I.hok.fresh (Nat.le_succ _)) (I.hok.fresh (Nat.le_refl _)) (Nat.ne_of_lt (Nat.lt_succ_self _))
  have I2 := Inv.made (C := C) I
  have r2 : Vals [V.ref (s.heap.objs.size + 1)] [Value.ref (s.heap.objs.size + 1)] := .cons rfl .nil
  refine wpAny_call (make_map (f := f) I.kIn M.makes M.init (beq_iff_eq.mp M.fn) (codeAny_mono (F _ X.stack _ _ [Value.ref (s.heap.objs.size + 1)] v [V.ref (s.heap.objs.size + 1)] z _ E (hr.make C [] [(q, v)]) (I2.env0.make C [] [(q, v)]) r2 rz hq) fun r s' hq' => ?_))
  cases r with
  | error e => exact hx pins σ _ _ e s' I2 hq'
  | ok fl =>
    cases fl with
    | ret u =>
      obtain ⟨v, H', I3, rv, ev, q3⟩ := I2.after hq'
      subst ev
      exact ⟨rv, ⟨V.ref (s.heap.objs.size + 1), H', I3, rfl, q3⟩⟩
    | next => exact False.elim hq'
    | brk => exact False.elim hq'
    | cont => exact False.elim hq'
theorem pe_makeRK (M : Mk X.K C f) (F : FnRK X.prog X.w X.K X.mg X.base CX k f q sp) (hr : Room (k + 1) X.A) (hg : Gl X x) (hm : X.mg x = some (.ref C)) (hx : Passes CX X E) (hkw : PK X kws tk)
    (hall : (backToKw pos (keywordEach kws X.env)).all (·.1.isSome) = true := by rfl) (hks : (backToKw pos (keywordEach kws X.env)).filterMap (·.1) = [q] := by rfl) (hdb : (x == ("__debug__" : Str)) = false := by decide)
    (hpl : ((backTo pos (starEach [] X.env)).any (·.1) || (backToKw pos (keywordEach kws X.env)).any (·.1.isNone)) = false := by rfl) :
    PE X (.Call (.Name x p) [] kws pos) (tMakeRK C sp E tk) := by
  refine ⟨fun pins s σ H Q I h => ?_⟩
  refine wpAny_Call_Name_kw (ld_glob I hg hm ?_ hdb)
  refine PySem.W.callWith_KW0 (h₀ := X.base) I.ok.mod.kin M.kp hall ?_ hpl
  refine thn (hkw.run pos pins s σ H _ I h) fun ws s2 ⟨zs, H2, I2, rz, z, ez, q2⟩ => ⟨I2.kIn, ?_⟩
  subst ez
  obtain ⟨v, rfl, rv⟩ := vals1 rz
  rw [hks]
  exact run_makeRK M F hr hx I2 rv q2
end
/-- what a def with one parameter ahead binds -/
theorem bindK1 {B : List Value → Sem (List (Str × Value))} {p1 q pv : Str} {d : Value} {D : Addr}
    (h0 : ∀ a, ∃ (β γ : Type) (k1 : Option Value → Sem β) (k2 : β → Sem γ) (k3 : γ → Sem (List (Str × Value))) (b : β), B [a] = ((nsGet D q >>= k1) >>= k2) >>= k3 ∧ k1 (some d) = pure b ∧ (k2 b >>= k3) = (newTuple [] >>= fun t => pure [(p1, a), (q, d), (pv, t)]))
    (h1 : ∀ a r rs, ∃ (β γ : Type) (k1 : Option Value → Sem β) (k2 : β → Sem γ) (k3 : γ → Sem (List (Str × Value))) (b : β), B (a :: r :: rs) = ((nsGet D q >>= k1) >>= k2) >>= k3 ∧ k1 (some d) = pure b ∧ (k2 b >>= k3) = (newTuple (r :: rs) >>= fun t => pure [(p1, a), (q, d), (pv, t)])) :
    ∀ us rest : List Value, us.length = [p1].length → ∃ (β γ : Type) (k1 : Option Value → Sem β) (k2 : β → Sem γ) (k3 : γ → Sem (List (Str × Value))) (b : β), B (us ++ rest) = ((nsGet D q >>= k1) >>= k2) >>= k3 ∧ k1 (some d) = pure b ∧
      (k2 b >>= k3) = (newTuple rest >>= fun t => pure ([p1].zip us ++ [(q, d), (pv, t)]))
  | [a], [], _ => h0 a
  | [a], r :: rs, _ => h1 a r rs
theorem bindK1w {B : List Value → Value → Sem (List (Str × Value))} {p1 q pv : Str} (h : ∀ a v, B [a] v = (newTuple [] >>= fun t => pure [(p1, a), (q, v), (pv, t)])) :
    ∀ (us : List Value) (v : Value), us.length = [p1].length → B us v = (newTuple [] >>= fun t => pure ([p1].zip us ++ [(q, v), (pv, t)]))
  | [a], v, _ => h a v
end Und
/-! C(k = v, ..) without positional values; star methods that raise -/
namespace Und
open PySem PySem.Spec PyProof.Rows L2
/-- keywords in any order, defaults for what lacks -/
structure KwD (K : PySem.W.Frag) (fd : FuncData) (ps : List Str) (n : Nat) (ks : List Str) (dvs : List V) (g : {α : Type} → List α → List α → List α → List α) : Prop where
  ex : ∃ its : List Value, KBn K fd ps n ks (fun us ws => g us its ws) (fun vs zs => g vs dvs zs)
def g2r {α : Type} (vs _ zs : List α) : List α := match vs, zs with
  | [s], [b, a] => [s, a, b]
  | _, _ => []
def g2f {α : Type} (vs ds zs : List α) : List α := match vs, ds, zs with
  | [s], [d, _], [b] => [s, d, b]
  | _, _, _ => []
theorem g2r_rel {vs ds zs : List V} {us its ws : List Value} (h1 : Vals vs us) (h2 : Vals ds its) (h3 : Vals zs ws) : Vals (g2r vs ds zs) (g2r us its ws) := by
  cases h1 with
  | nil => exact .nil
  | cons r t =>
    cases t with
    | nil =>
      cases h3 with
      | nil => exact .nil
      | cons r2 t2 =>
        cases t2 with
        | nil => exact .nil
        | cons r3 t3 =>
          cases t3 with
          | nil => exact .cons r (.cons r3 (.cons r2 .nil))
          | cons _ _ => exact .nil
    | cons _ _ => exact .nil
theorem g2f_rel {vs ds zs : List V} {us its ws : List Value} (h1 : Vals vs us) (h2 : Vals ds its) (h3 : Vals zs ws) : Vals (g2f vs ds zs) (g2f us its ws) := by
  cases h1 with
  | nil => exact .nil
  | cons r t =>
    cases t with
    | cons _ _ => exact .nil
    | nil =>
      cases h2 with
      | nil => exact .nil
      | cons q u =>
        cases u with
        | nil => exact .nil
        | cons q2 u2 =>
          cases u2 with
          | cons _ _ => exact .nil
          | nil =>
            cases h3 with
            | nil => exact .nil
            | cons r2 t2 =>
              cases t2 with
              | nil => exact .cons r (.cons q (.cons r2 .nil))
              | cons _ _ => exact .nil
section
variable {X : Cx} {CX : CXT} {k : Nat} {f C : Addr} {fd : FuncData} {ps ks : List Str} {sp : Sp} {E : XK} {x : Str} {p pos : Pos} {kws : List Keyword} {tk : TA} {dvs : List V} {g : {α : Type} → List α → List α → List α → List α}
def rMkK (C : Addr) (m : Nat) (sp : Sp) (dvs : List V) (g : {α : Type} → List α → List α → List α → List α) (E : XK) (zs : List V) (H : Hp) (Q : VK) : Prop := zs.length = m ∧ ∀ x dx, H x = none → H dx = none → dx ≠ x → sp (g [.ref x] dvs zs) (upd (upd H dx (.own x)) x (.ins C dx [])) (fun v H3 => v = .non ∧ Q (.ref x) H3) E
def tMkK (C : Addr) (m : Nat) (sp : Sp) (dvs : List V) (g : {α : Type} → List α → List α → List α → List α) (E : XK) (tk : TA) : TE := fun σ H Q => tk σ H fun zs H1 => rMkK C m sp dvs g E zs H1 Q
theorem c_mkK {σ : L2.St} {H : Hp} {Q : VK} {m : Nat} (h : tk σ H fun zs H1 => rMkK C m sp dvs g E zs H1 Q) : tMkK C m sp dvs g E tk σ H Q := h
theorem pe_makeK0 (M : Mk X.K C f) (F : FnOk X.prog X.w X.K X.mg X.base CX k f fd ps sp) (hr : Room (k + 1) X.A) (hg : Gl X x) (hm : X.mg x = some (.ref C)) (hb : KwD X.K fd ps 1 ks dvs g) (hx : Passes CX X E) (hkw : PK X kws tk)
    (hdb : (x == ("__debug__" : Str)) = false := by decide) (hall : (backToKw pos (keywordEach kws X.env)).all (·.1.isSome) = true := by rfl) (hks : (backToKw pos (keywordEach kws X.env)).filterMap (·.1) = ks := by rfl)
    (hpl : ((backTo pos (starEach [] X.env)).any (·.1) || (backToKw pos (keywordEach kws X.env)).any (·.1.isNone)) = false := by rfl) :
    PE X (.Call (.Name x p) [] kws pos) (tMkK C ks.length sp dvs g E tk) := by
  obtain ⟨its, hb⟩ := hb.ex
  refine ⟨fun pins s σ H Q I h => ?_⟩
  refine wpAny_Call_Name_kw (ld_glob I hg hm ?_ hdb)
  refine PySem.W.callWith_KW0 (first := []) (h₀ := X.base) I.ok.mod.kin M.kp hall (thn (hkw.run pos pins s σ H _ I h) fun ws s2 ⟨zs, H2, I2, rz, l2, q2⟩ => ⟨I2.kIn, ?_⟩) hpl
  rw [hks]
  exact run_makeN (n := 0) (us := []) M F hr hb hx I2 .nil rz rfl l2 q2
end
section
variable {X : Cx} {CX : CXT} {k : Nat} {C g p : Addr} {mc : Value} {sp : Sp} {E : XK} {o : Expr} {m : Str} {pos apos : Pos} {ta : TE} {pl : Sem Bool}
/-- C.m(), m a class method -/
theorem pe_cmeth0 (he : PE X o ta) (r : ClX.CRead X.K C mc) (c : ClX.CMet X.K C mc m p g) (F : FnR X.prog X.w X.K X.mg X.base CX k g sp) (hr : Room k X.A) (hx : Passes CX X E)
    (ht : eval (.Call (.Attribute o m apos) [] [] pos) X.env = (do
      let ov ← eval o X.env
      standAt apos.atName
      let (f, first) ← holding [ov] (getMethod ov m pl)
      callWith pos f first (backTo pos (starEach [] X.env)) (backToKw pos (keywordEach [] X.env))) := by rfl) : PE X (.Call (.Attribute o m apos) [] [] pos) (ClX.tCMeth C sp E ta tNil) := by
  constructor
  intro pins s σ H Q I h
  refine PySem.W.methodCall_KW (pl := pl) (thn (he.run pins s σ H _ I h) ?_) ht
  rintro u s1 ⟨x, H1, I1, rx, rfl, q⟩
  obtain rfl : u = Value.ref C := rx
  refine ClX.getmethcm_ok I1 r c fun s2 I2 => ?_
  refine PySem.W.callWith_M0 (first := []) ⟨ClX.pin_at I2, I2.kIn⟩ c.fi ?_
  exact ClX.run_cm (us := []) (vs := []) F hr hx I2 .nil q
end
section
variable {P : Program} {w : World} {K : PySem.W.Frag} {mg : Str → Option Value} {base : Heap}
/-- FunS.ok where something is raised -/
theorem FunS.okX {name qual pv : Str} {st : Stmt} {ps N : List Str} {f : Addr} {k : Nat} {sp : Sp} (F : FunS K name qual st ps pv f) (S : FnScope N (ps ++ [pv]) (defScope st))
    (hbody : ∀ (cdv : Value) (A : Around) (outer : List Env) (s : Shared) (H : Hp) (vs : List V) (Q : VK) (E : XK), Room k (A.deeper (envOfC qual (defScope st) s.heap.objs.size f cdv)) → sp vs H Q E →
      ∃ t, PSs (cxOf (L2.CX P w) P w K mg base N qual (defScope st) f cdv A outer s H E) (defBody st) t ∧ t { nx := fun _ H' => Q .non H', rt := Q } (start N vs) H) : FnR P w K mg base (L2.CX P w) (k + 1) f (spStar ps.length sp) := by
  obtain ⟨oc, od, dV, kV, doc, pm, an, cdv, ct, osl, lk, hcd, hb⟩ := F.ex
  exact StX.fn_star lk hcd S StX.cxUp hb fun A outer s H vs Q E hr hsp => hbody cdv A outer s H vs Q E hr hsp
end
end Und
namespace Und
open PySem PySem.Spec PyProof.Rows L2 LamX
/-! ### what stays where tables grow -/
section
variable {K : PySem.W.Frag} {H H' : Hp} {v : V}
theorem tyx_extN {t : Value} (s : ExtN H H') (h : TyX K H v t) : TyX K H' v t := by
  cases h with
  | base b =>
    cases b with
    | non => exact .base .non
    | bl y => exact .base (.bl y)
    | int y => exact .base (.int y)
    | str y => exact .base (.str y)
    | flt y => exact .base (.flt y)
    | lst e => exact .base (.lst (s _ _ e fun ps z => by cases z))
    | frz e => exact .base (.frz (s _ _ e fun ps z => by cases z))
    | tup e => exact .base (.tup (s _ _ e fun ps z => by cases z))
    | dK e => exact .base (.dK (s _ _ e fun ps z => by cases z))
    | dT e => exact .base (.dT (s _ _ e fun ps z => by cases z))
    | ins e a b c d f => exact .base (.ins (s _ _ e fun ps z => by cases z) a b c d f)
  | byt y => exact .byt y
  | set e => exact .set (s _ _ e fun ps z => by cases z)
  | kList a b => exact .kList a b
  | kTuple a b => exact .kTuple a b
  | kDict a b => exact .kDict a b
  | fTuple e => exact .fTuple (s _ _ e fun ps z => by cases z)
  | fDict e => exact .fDict (s _ _ e fun ps z => by cases z)
theorem rp_of {a : Addr} {d : PyData} {n m : Nat} (hd : Dp K H (.ref a) d) (ok : DOk d n) (ln : n ≤ 32) (sh : Shw d m) (lm : m ≤ 10000000) : Rp K H (.ref a) d.shown := .dat a d hd sh.1 (PyData.hasDict_of_canLay d ok.lay) (Nat.le_trans ok.dep ln) (Nat.le_trans sh.2 (Nat.le_trans lm (by decide)))
theorem dok_pair {d e : PyData} (h : DOk d 0) (g : DOk e 0) : DOk (.list [d, e]) 1 := (dok_list (n := 0) fun x hx => by
  simp only [List.mem_cons, List.not_mem_nil, or_false] at hx
  rcases hx with rfl | rfl
  · exact h
  · exact g).1
theorem pool_stay {o : HO} {p a : Addr} (q : Pool H p) (st : Stp p H H') (e : H a = some o) (no : ∀ l, o ≠ .lst l) : H' a = some o := by
  refine st.at e fun z => ?_
  obtain ⟨x, y, c, e2, _⟩ := q
  rw [z, e] at e2
  exact no _ (Option.some.inj e2)
theorem pool_stayT {p t : Addr} {xs : List V} (q : Pool H p) (st : Stp p H H') (h : SqT K H t xs) : SqT K H' t xs := by
  rcases h with (h | ⟨o, h⟩) | h
  · exact .inl (.inl (pool_stay q st h (by intro l z; cases z)))
  · exact .inl (.inr ⟨o, pool_stay q st h (by intro l z; cases z)⟩)
  · exact .inr h
end
end Und
/-! a def f(a, *v) of the module, called with positional values or with its one name -/
namespace Und
open PySem PySem.Spec PyProof.Rows L2
/-- what stands behind the top, and what its two kinds of calls bind -/
structure FunSt (K : PySem.W.Frag) (name : Str) (st : Stmt) (p1 pv : Str) (f : Addr) : Prop where
  ex : ∃ (oc : Value) (od : Option Addr) (dV kV doc pm : Value) (an : Option Addr) (cdv ct : Value) (osl : Array (Option Value)),
    K.lookup f = some ⟨oc, od, .func (PySem.W.fnOf name name (defArgs st) (defBody st) (defScope st) dV kV doc pm an cdv ct), osl⟩ ∧ PySem.W.codeIn K cdv name = true ∧
    (∀ us rest : List Value, us.length = [p1].length → bindArgs (PySem.W.fnOf name name (defArgs st) (defBody st) (defScope st) dV kV doc pm an cdv ct) ⟨us ++ rest, []⟩ = (newTuple rest >>= fun t => pure ([p1].zip us ++ [(pv, t)]))) ∧
    (∀ v : Value, bindArgs (PySem.W.fnOf name name (defArgs st) (defBody st) (defScope st) dV kV doc pm an cdv ct) ⟨[], [(p1, v)]⟩ = (newTuple [] >>= fun t => pure [(p1, v), (pv, t)]))
  kp : PySem.W.keepIn K (.ref f) = true
/-- called with its one name -/
def spOneK (sp : Sp) : Sp := fun vs H Q E => ∃ x, vs = [x] ∧ ∀ p, H p = none → sp [x, V.ref p] (upd H p (.tup [])) Q E
section
variable {P : Program} {w : World} {K : PySem.W.Frag} {mg : Str → Option Value} {base : Heap}
theorem FunSt.ok {name p1 pv : Str} {st : Stmt} {N : List Str} {f : Addr} {k : Nat} {sp : Sp} (F : FunSt K name st p1 pv f) (S : FnScope N [p1, pv] (defScope st))
    (hbody : ∀ (cdv : Value) (A : Around) (outer : List Env) (s : Shared) (H : Hp) (vs : List V) (Q : VK) (E : XK), Room k (A.deeper (envOfC name (defScope st) s.heap.objs.size f cdv)) → sp vs H Q E →
      ∃ t, PSs (cxOf CX0 P w K mg base N name (defScope st) f cdv A outer s H E).nox (defBody st) t ∧ t { nx := fun _ H' => Q .non H', rt := Q } (start N vs) H) :
    FnR P w K mg base CX0 (k + 1) f (spStar 1 sp) ∧ FnRK P w K mg base CX0 (k + 1) f p1 (spOneK sp) := by
  obtain ⟨oc, od, dV, kV, doc, pm, an, cdv, ct, osl, lk, hcd, hb, hw⟩ := F.ex
  refine ⟨FunS.ok (ps := [p1]) ⟨⟨oc, od, dV, kV, doc, pm, an, cdv, ct, osl, lk, hcd, hb⟩, F.kp⟩ S hbody, fun A outer s H us v vs x Q E hr e0 r rx hsp => ?_⟩
  obtain ⟨y, ev, hq⟩ := hsp
  obtain ⟨rfl, e2⟩ := List.append_inj' (s₂ := []) ev rfl
  obtain rfl : x = y := by simpa using e2
  obtain rfl : us = [] := by cases r; rfl
  have hn : H s.heap.objs.size = Option.none := e0.hok.fresh (Nat.le_refl _)
  refine StX.run_bnd (ps := [p1, pv]) lk hcd S hr e0 (G := fun xs H2 => ∃ p, H p = Option.none ∧ xs = [x, V.ref p] ∧ H2 = upd H p (.tup [])) (fun A' Ex Q' h => ?_) fun s2 H2 xs ⟨p, hp, ex, eH⟩ hr' => ?_
  · rw [hw v]
    refine wpAny_bind (wpAny_newTuple (wpAny_pure ?_) (Nat.zero_le _))
    have new : ObjOk P w (upd H s.heap.objs.size (.tup [])) (s.heap.push ({ cls := .type "tuple", data := .seq #[] } : Obj)) s.heap.objs.size (.tup []) := ⟨Nat.zero_le _, [], .nil, ⟨_, Heap.get?_push_size _ rfl, rfl, _, rfl⟩⟩
    have un := StX.un_laid (fs := frs outer) (s := s) (o := ({ cls := .type "tuple", data := .seq #[] } : Obj)) (u := .tup []) hn
    exact h _ _ [x, V.ref s.heap.objs.size] [v, Value.ref s.heap.objs.size] (StX.env0_laid e0 new) un rfl (fun e s' z => z) (.cons rx (.cons rfl .nil)) rfl ⟨_, hn, rfl, rfl⟩
  · subst ex eH
    obtain ⟨t, h, q⟩ := hbody cdv A outer s2 _ _ Q E hr' (hq p hp)
    exact ⟨t, h.nox, q⟩
end
section
variable {X : Cx} {CX : CXT} {k : Nat} {f : Addr} {sp : Sp} {E : XK} {x q : Str} {kws : List Keyword} {tk : TA} {p pos : Pos}
theorem run_fnRK {pins : List (Addr × Obj)} {σ : L2.St} {H : Hp} {s : Shared} {Q : VK} {z : V} {v : Value} (F : FnRK X.prog X.w X.K X.mg X.base CX k f q sp) (hr : Room k X.A) (hx : Passes CX X E) (I : Inv X pins σ H s) (rz : RelV z v)
    (h : sp [z] H Q E) : wpAny (model X.prog X.w) X.A (call (.ref f) [] [(q, v)]) (EP X pins σ Q) X.xe s := by
  refine wpAny_call (codeAny_mono (F X.A X.stack s H [] v [] z Q E hr I.env0 .nil rz h) fun r s' hq => ?_)
  cases r with
  | error e => exact hx pins σ H s e s' I hq
  | ok fl =>
    cases fl with
    | ret u => exact I.after hq
    | next => exact False.elim hq
    | brk => exact False.elim hq
    | cont => exact False.elim hq
/-- f(q = e) -/
def tCallOK (sp : Sp) (E : XK) (tk : TA) : TE := fun σ H Q => tk σ H fun vs H1 => ∃ z, vs = [z] ∧ sp [z] H1 Q E
theorem c_callOK {σ : L2.St} {H : Hp} {Q : VK} (h : tk σ H fun vs H1 => ∃ z, vs = [z] ∧ sp [z] H1 Q E) : tCallOK sp E tk σ H Q := h
theorem pe_callOK (F : FnRK X.prog X.w X.K X.mg X.base CX k f q sp) (hr : Room k X.A) (hg : Gl X x) (hm : X.mg x = some (.ref f)) (hk : PySem.W.keepIn X.K (.ref f) = true) (hx : Passes CX X E) (hkw : PK X kws tk)
    (hall : (backToKw pos (keywordEach kws X.env)).all (·.1.isSome) = true := by rfl) (hks : (backToKw pos (keywordEach kws X.env)).filterMap (·.1) = [q] := by rfl) (hdb : (x == ("__debug__" : Str)) = false := by decide)
    (hpl : ((backTo pos (starEach [] X.env)).any (·.1) || (backToKw pos (keywordEach kws X.env)).any (·.1.isNone)) = false := by rfl) :
    PE X (.Call (.Name x p) [] kws pos) (tCallOK sp E tk) := by
  refine ⟨fun pins s σ H Q I h => ?_⟩
  refine wpAny_Call_Name_kw (ld_glob I hg hm ?_ hdb)
  refine PySem.W.callWith_KW0 (h₀ := X.base) I.ok.mod.kin hk hall ?_ hpl
  refine thn (hkw.run pos pins s σ H _ I h) fun ws s2 ⟨zs, H2, I2, rz, z, ez, q2⟩ => ⟨I2.kIn, ?_⟩
  subst ez
  obtain ⟨v, rfl, rv⟩ := vals1 rz
  rw [hks]
  exact run_fnRK F hr hx I2 rv q2
variable {e : Expr} {es : List Expr} {t : TA}
/-- f(e, ..), by a positional promise -/
def tCallPR (sp : Sp) (E : XK) (t : TA) : TE := fun σ H Q => t σ H fun vs H1 => sp vs H1 Q E
theorem c_callPR {σ : L2.St} {H : Hp} {Q : VK} (h : t σ H fun vs H1 => sp vs H1 Q E) : tCallPR sp E t σ H Q := h
theorem pe_callPR (F : FnR X.prog X.w X.K X.mg X.base CX k f sp) (hr : Room k X.A) (hg : Gl X x) (hm : X.mg x = some (.ref f)) (hk : PySem.W.keepIn X.K (.ref f) = true) (hx : Passes CX X E)
    (ha : PA X (e :: es) t) (hdb : (x == ("__debug__" : Str)) = false := by decide) (he : starEach (e :: es) X.env = (false, eval e X.env) :: starEach es X.env := by rfl) (hpl : (backTo pos (starEach es X.env)).any (·.1) = false := by rfl) :
    PE X (.Call (.Name x p) (e :: es) [] pos) (tCallPR sp E t) := by
  refine ⟨fun pins s σ H Q I h => ?_⟩
  refine wpAny_Call_Name_kw (ld_glob I hg hm ?_ hdb)
  refine PySem.W.callWith_K (h₀ := X.base) I.ok.mod.kin hk (thn (ha.run pos pins s σ H _ I h) fun us s1 ⟨vs, H1, I1, r, q⟩ => ⟨I1.kIn, ?_⟩) he hpl
  exact wpAny_call (run_fnR F hr hx I1 r q)
end
end Und
/-! walks over what is a list or a tuple; how often an int stands in a list; a list repeated -/
namespace Und
open PySem PySem.Spec PyProof.Rows L2
section
variable {X : Cx} {tg : Expr}
def rItS (K : PySem.W.Frag) (x : V) (G : Hp) (R : It → Hp → Prop) : Prop := ∃ a, x = .ref a ∧ (((∃ ys, SqL K G a ys) ∧ R (Itl K a) G) ∨ ((∃ ys, SqT K G a ys) ∧ R (Itt K a) G))
def iSeq (K : PySem.W.Frag) (tl : TE) : TI := fun σ H R => tl σ H fun x G => rItS K x G R
theorem new_ok {pins : List (Addr × Obj)} {σ : L2.St} {G : Hp} {s : Shared} (I : Inv X pins σ G s) : ∀ b ∈ [s.heap.objs.size], FpOk X pins G b := fun b m => by
  cases List.mem_singleton.mp m
  exact I.fpOk (Nat.le_refl _) (I.hok.fresh (Nat.le_refl _))
theorem pi_seq {l : Expr} {tl : TE} (hl : PE X l tl) : PI X tg l (iSeq X.K tl) := by
  constructor
  intro pins s σ H R I h
  apply thn (hl.run pins s σ H _ I h)
  rintro v s1 ⟨x, G, J, rx, a, rfl, hx⟩
  cases rx
  rcases hx with ⟨⟨ys, hy⟩, q⟩ | ⟨⟨ys, hy⟩, q⟩
  · obtain ⟨its, _, p, _⟩ := J.list hy
    exact wpAny_pyIter_list p.isList ⟨_, [s1.heap.objs.size], _, _, G, rfl, J.kept (t' := s1.toks) fun _ _ e => Heap.get?_push_of_some _ e, turn_list a _, ⟨_, Heap.get?_push_size _ rfl, rfl, rfl⟩, new_ok J, q⟩
  · obtain ⟨its, _, p, _⟩ := J.tuple hy
    exact wpAny_pyIter_tuple (items := its.toArray) p ⟨_, [s1.heap.objs.size], _, _, G, rfl, J.kept (t' := s1.toks) fun _ _ e => Heap.get?_push_of_some _ e, turn_tuple a _, ⟨_, Heap.get?_push_size _ rfl, rfl, rfl⟩, new_ok J, q⟩
theorem piSeq {K : PySem.W.Frag} {l : Expr} {tl : TE} (hl : PE X l tl) (h : X.K = K := by rfl) : PI X tg l (iSeq K tl) := h ▸ pi_seq hl
end
section
variable {K : PySem.W.Frag} {a : Addr} {xs : List V} {g : TG} {tb : TS} {D : Ends} {σ : L2.St} {H : Hp} {Q : VK}
theorem c_iseq {tl : TE} {R : It → Hp → Prop} (h : tl σ H fun x G => rItS K x G R) : iSeq K tl σ H R := h
/-- a list or a tuple -/
def SqA (K : PySem.W.Frag) (H : Hp) (a : Addr) (xs : List V) : Prop := SqL K H a xs ∨ SqT K H a xs
theorem SqA.same {H' : Hp} (s : Same H H') (h : SqA K H a xs) : SqA K H' a xs := h.elim (fun h => .inl (s.seq h)) fun h => .inr (same_seqT s h)
abbrev ForW (J : It) (g : TG) (tb : TS) (D : Ends) (σ : L2.St) (H : Hp) : Prop := ∃ W : Nat → Nat → L2.St → Hp → Prop, (∃ m, W 0 m σ H) ∧ ∀ i m σ H, W i m σ H →
  (J.stop i H ∧ D.nx σ H) ∨ (J.go i H ∧ ∃ N : L2.St → Hp → Prop, (∀ σ' H', N σ' H' → ∃ m', m' < m ∧ W (i + 1) m' σ' H') ∧ ∀ x H', J.yld i H x H' → g x σ H' fun σ2 H2 => tb { D with nx := N, ct := N, bk := D.nx } σ2 H2)
/-- over a list or a tuple that stays as it is -/
theorem for_any {H0 : Hp} (hS : SqA K H0 a xs) (Pv : Nat → L2.St → Hp → Prop) (h0 : Pv 0 σ H) (hl : ∀ i σ' H', Pv i σ' H' → Same H0 H')
    (hs : ∀ i x σ' H', xs[i]? = some x → Pv i σ' H' → g x σ' H' fun σ2 H2 => tb { D with nx := Pv (i + 1), ct := Pv (i + 1), bk := D.nx } σ2 H2) (hd : ∀ σ' H', Pv xs.length σ' H' → D.nx σ' H') :
    rItS K (.ref a) H fun J H1 => ForW J g tb D σ H1 := by
  rcases hS with hS | hS
  · exact ⟨a, rfl, .inl ⟨⟨xs, (hl _ _ _ h0).seq hS⟩, for_list (xs := xs) Pv h0 (fun i σ' H' _ p => (hl i σ' H' p).seq hS) hs hd⟩⟩
  · exact ⟨a, rfl, .inr ⟨⟨xs, same_seqT (hl _ _ _ h0) hS⟩, for_tup (xs := xs) Pv h0 (fun i σ' H' _ p => same_seqT (hl i σ' H' p) hS) hs hd⟩⟩
end
/-! ### count, and a list repeated -/
section
variable {X : Cx} {K : PySem.W.Frag} {a : Addr} {H : Hp} {Q : VK}
def rCnt (K : PySem.W.Frag) (x : V) (xs : List V) (H : Hp) (Q : VK) : Prop := rCntI K x xs H Q
theorem mtCnt (h : X.K = K := by rfl) : MtR X "list.count" (rCnt K) := h ▸ mt_lcount
theorem c_cnt {ns : List Int} {k : Int} (e : SqL K H a (ns.map V.int)) (h : Q (.int (ns.count k : Nat)) H) : rCnt K (.ref a) [.int k] H Q := ⟨a, ns, k, rfl, rfl, e, h⟩
theorem c_rep1 {x : V} {k : Nat} (e : H a = some (.lst [x])) (hk : k ≤ 100000) (h : ∀ p H2, H p = none → Same H H2 → H2 p = some (.lst (List.replicate k x)) → Q (.ref p) H2) : rRep (.ref a) (.int (k : Int)) H Q := by
  refine ⟨a, k, [x], rfl, rfl, e, by omega, by omega, ?_, fun p np => ?_⟩
  · rw [Int.toNat_natCast, List.length_singleton, Nat.one_mul]
    exact sz hk
  · have e2 : (List.replicate (k : Int).toNat [x]).flatten = List.replicate k x := by
      rw [Int.toNat_natCast]
      clear e h hk
      induction k with
      | zero => rfl
      | succ k ih => rw [List.replicate_succ, List.flatten_cons, ih, List.replicate_succ]; rfl
    rw [e2]
    exact h p _ np (same_new np) upd_same
theorem cut_past (xs : List V) (k : Nat) : cutV xs none (some (k : Int)) = xs.take k ∧ cutV xs (some (k : Int)) none = xs.drop k := by
  unfold cutV
  rw [HT.sIx_none, HT.sIx_none, HT.sIx_nat, HT.sIx_nat, List.drop_zero, Nat.sub_zero]
  by_cases h : k ≤ xs.length
  · rw [Nat.min_eq_left h]
    exact ⟨rfl, List.take_of_length_le (by rw [List.length_drop]; omega)⟩
  · rw [Nat.min_eq_right (by omega), List.take_of_length_le (Nat.le_refl _), List.take_of_length_le (by omega : xs.length ≤ k), List.drop_eq_nil_of_le (by omega : xs.length ≤ k), List.drop_length, List.take_nil]
    exact ⟨rfl, rfl⟩
end
/-! ### zip -/
section
variable {X : Cx} {K : PySem.W.Frag}
def rItZ (K : PySem.W.Frag) (vs : List V) (G : Hp) (R : It → Hp → Prop) : Prop := ∃ (a b : Addr) (xs ys : List V), vs = [.ref a, .ref b] ∧ SqL K G a xs ∧ SqL K G b ys ∧ R (Itz K a b) G
def iZp (K : PySem.W.Frag) (ta : TA) : TI := fun σ H R => ta σ H fun vs G => rItZ K vs G R
theorem piZip {e e2 : Expr} {ta : TA} {p pos tpos : Pos} {elts : List Expr} {kk : Nat} (hg : Gl X "zip") (hm : X.mg "zip" = none) (ha : PA X [e, e2] ta) (h : X.K = K := by rfl)
    (hs : starEach [e, e2] X.env = (false, eval e X.env) :: starEach [e2] X.env := by rfl) (hpl : (backTo pos (starEach [e2] X.env)).any (·.1) = false := by rfl) : PI X (.Tuple elts kk tpos) (.Call (.Name "zip" p) [e, e2] [] pos) (iZp K ta) := h ▸ pi_zip hg hm ha hs hpl
theorem c_izp {ta : TA} {σ : L2.St} {H : Hp} {R : It → Hp → Prop} (h : ta σ H fun vs G => rItZ K vs G R) : iZp K ta σ H R := h
theorem c_ritz {a b : Addr} {xs ys : List V} {H : Hp} {R : It → Hp → Prop} (h1 : SqL K H a xs) (h2 : SqL K H b ys) (h : R (Itz K a b) H) : rItZ K [.ref a, .ref b] H R := ⟨a, b, xs, ys, rfl, h1, h2, h⟩
end
section
variable {K : PySem.W.Frag} {te : TE} {g : TG} {vs : List Nat} {σ : L2.St} {H1 : Hp} {D a b : Addr} {Qd : Hp → Prop} {xs ys : List V}
theorem lc_zp (R : Nat → V → Prop) (hl : xs.length = ys.length) (nD : H1 D = none) (hn : xs.length ≤ 100000) (hA : SqL K H1 a xs) (hB : SqL K H1 b ys)
    (hs : ∀ i x y T H (Q' : VK), xs[i]? = some x → ys[i]? = some y → Same H1 H → H T = some (.tup [x, y]) → (∀ v H4, Same H H4 → R i v → Q' v H4) → g (.ref T) (wipe σ vs) H fun σ2 H2 => wipe σ2 vs = wipe σ vs ∧ te σ2 H2 Q')
    (hd : ∀ H zs, Same H1 H → H D = some (.lst zs) → zs.length = xs.length → (∀ i y, zs[i]? = some y → R i y) → Qd H) : LcW (Itz K a b) te g tYes vs σ H1 D Qd := by
  refine ⟨fun i m H => m = xs.length - i ∧ i ≤ xs.length ∧ Same H1 H ∧ Acc R D i H, ⟨xs.length, by simp, Nat.zero_le _, same_new nD, [], upd_same, rfl, fun j y e => by simp at e⟩, ?_⟩
  rintro i m H ⟨rfl, hi, s, zs, e, l, r⟩
  by_cases hlt : i < xs.length
  · have hlt2 : i < ys.length := by omega
    refine .inr ⟨⟨xs, ys, xs[i], ys[i], s.seq hA, s.seq hB, by simp [hlt], by simp [hlt2]⟩, fun H' => Same H1 H' ∧ Acc R D (i + 1) H', fun H' p' => ⟨xs.length - (i + 1), by omega, rfl, hlt, p'⟩, fun x H' y => ?_⟩
    obtain ⟨T, x0, y0, rfl, nT, rfl, hx, hy⟩ := y
    have hx := hx xs (s.seq hA)
    have hy := hy ys (s.seq hB)
    have sT : Same H (upd H T (.tup [x0, y0])) := same_new nT
    exact hs i x0 y0 T _ (fun y H4 => ∃ acc, H4 D = some (.lst acc) ∧ acc.length < sizeLine ∧ (Same H1 (upd H4 D (.lst (acc ++ [y]))) ∧ Acc R D (i + 1) (upd H4 D (.lst (acc ++ [y]))))) hx hy (s.trans sT) upd_same fun y H4 s4 ry =>
      ⟨zs, s4 _ _ (sT _ _ e), szl (by omega), Same.mut ((s.trans sT).trans s4) nD, Acc.put l r ry⟩
  · have e' : i = xs.length := by omega
    subst e'
    exact .inl ⟨⟨xs, ys, s.seq hA, s.seq hB, .inl (Nat.le_refl _)⟩, hd H zs s e l r⟩
end
theorem dpAll_bls {K : PySem.W.Frag} {H : Hp} : ∀ bs : List Bool, DpAll K H (bs.map V.bl) (bs.map PyData.bool)
  | [] => .nil
  | b :: bs => .cons (.bl b) (dpAll_bls bs)
end Und
namespace Und
open PySem PySem.Spec PyProof.Rows L2
local macro_rules | `(tactic| walk_at "side") => `(tactic| first | decide | omega | exact ⟨by omega, by omega⟩ | (show (0 : Int) < _; omega) | (exact Or.inl ⟨by omega, by omega⟩) | (exact Or.inr ⟨by omega, by omega⟩) | (exact sz (by simp)) | (exact szl (by simp)))
local macro_rules | `(tactic| walk_at "u") => `(tactic| first
  | with_reducible refine c_seq ?_ | with_reducible refine c_next ?_ | with_reducible refine c_yes ?_ | with_reducible refine c_asg ?_ | with_reducible refine c_asg2 ?_ | with_reducible refine c_par ?_ | with_reducible refine c_two ?_ | with_reducible refine c_g ?_ | with_reducible refine c_gsub ?_ | with_reducible refine c_gcons ?_ | with_reducible refine c_gnil ?_ | with_reducible refine c_ret ?_ | with_reducible refine c_drop ?_
  | ((with_reducible refine c_var (v := ?v) ?h ?_); (case h => rfl)) | with_reducible refine c_c ?_ | with_reducible refine c_op ?_ | with_reducible refine c_un ?_ | with_reducible refine c_I0 ?_
  | ((with_reducible refine c_I ?h ?_); (case h => walk_at "side"))
  | ((with_reducible refine c_eq ?h ?_); (case h => rfl)) | ((with_reducible refine c_neq ?h ?_); (case h => rfl)) | with_reducible refine c_test ?_ | with_reducible refine c_B ?_ | with_reducible refine c_bl ?_ | with_reducible refine c_int ?_ | with_reducible refine c_ifs ?_ | with_reducible refine c_ife ?_
  | with_reducible refine c_andV ?_ | with_reducible refine c_orV ?_ | with_reducible refine c_notV ?_ | with_reducible refine c_and ?_ | with_reducible refine c_or ?_ | with_reducible refine c_not ?_
  | with_reducible refine c_call ?_ | with_reducible refine c_cb ?_ | with_reducible refine c_nil ?_ | with_reducible refine c_cons ?_
  | with_reducible refine c_tup ?_ | with_reducible refine c_lst ?_ | with_reducible refine c_sl ?_ | with_reducible refine c_nop ?_ | with_reducible refine c_part ?_ | with_reducible refine c_fld ?_
  | with_reducible refine c_for ?_ | with_reducible refine c_ilist ?_ | with_reducible refine c_itup ?_ | with_reducible refine c_irng1 ?_ | with_reducible refine c_lc ?_
  | with_reducible refine c_m1 ?_ | with_reducible refine c_isS ?_ | with_reducible refine c_chain ?_ | with_reducible refine c_str ?_ | with_reducible refine c_make ?_ | with_reducible refine c_meth ?_ | with_reducible refine c_prop ?_ | with_reducible refine c_sfld ?_ | with_reducible refine c_ienumT ?_ | with_reducible refine iteT ?_ | with_reducible refine iteF ?_ | with_reducible refine iteNT ?_ | with_reducible refine iteNF ?_
  | ((with_reducible refine iteDT ?h ?_); (case h => first | rfl | omega)) | ((with_reducible refine iteDF ?h ?_); (case h => first | omega | (intro z; cases z; done))) | ((with_reducible refine iteNDT ?h ?_); (case h => first | rfl | omega)) | ((with_reducible refine iteNDF ?h ?_); (case h => first | omega | (intro z; cases z; done))))
local macro_rules | `(tactic| walk_at "go") => `(tactic| repeat (walk_at "u"))
def topS (i : Nat) : Stmt := PySem.Challenge.pw_undotables_k02_histories_made_and_refuse.main.body.getD i (.Pass ⟨0, 0, 0, 0⟩)
abbrev sIsName : Stmt := topS 23
abbrev nIsName : List Str := ["value"]
abbrev pIsName : List Str := ["value"]
theorem scIsName : FnScope nIsName pIsName (defScope sIsName) := ⟨rfl, rfl, rfl, by decide +kernel, rfl, by decide +kernel, by decide +kernel⟩
abbrev sIsAm : Stmt := topS 24
abbrev nIsAm : List Str := ["value"]
abbrev pIsAm : List Str := ["value"]
theorem scIsAm : FnScope nIsAm pIsAm (defScope sIsAm) := ⟨rfl, rfl, rfl, by decide +kernel, rfl, by decide +kernel, by decide +kernel⟩
abbrev sChName : Stmt := topS 25
abbrev nChName : List Str := ["name"]
abbrev pChName : List Str := ["name"]
theorem scChName : FnScope nChName pChName (defScope sChName) := ⟨rfl, rfl, rfl, by decide +kernel, rfl, by decide +kernel, by decide +kernel⟩
abbrev sChNames : Stmt := topS 26
abbrev nChNames : List Str := ["names", "at", "value"]
abbrev pChNames : List Str := ["names"]
theorem scChNames : FnScope nChNames pChNames (defScope sChNames) := ⟨rfl, rfl, rfl, by decide +kernel, rfl, by decide +kernel, by decide +kernel⟩
abbrev sChAm : Stmt := topS 27
abbrev nChAm : List Str := ["amount"]
abbrev pChAm : List Str := ["amount"]
theorem scChAm : FnScope nChAm pChAm (defScope sChAm) := ⟨rfl, rfl, rfl, by decide +kernel, rfl, by decide +kernel, by decide +kernel⟩
abbrev sMoved : Stmt := topS 28
abbrev nMoved : List Str := ["wanted", "available"]
abbrev pMoved : List Str := ["wanted", "available"]
theorem scMoved : FnScope nMoved pMoved (defScope sMoved) := ⟨rfl, rfl, rfl, by decide +kernel, rfl, by decide +kernel, by decide +kernel⟩
abbrev sHWith : Stmt := topS 29
abbrev nHWith : List Str := ["past", "future", "made"]
abbrev pHWith : List Str := ["past", "future"]
theorem scHWith : FnScope nHWith pHWith (defScope sHWith) := ⟨rfl, rfl, rfl, by decide +kernel, rfl, by decide +kernel, by decide +kernel⟩
abbrev sCell : Stmt := topS 32
abbrev nCell : List Str := ["_law_script", "_law_k", "_law_mixed", "_law_cell_here"]
abbrev pCell : List Str := ["_law_script", "_law_k"]
theorem scCell : FnScope nCell pCell (defScope sCell) := ⟨rfl, rfl, rfl, by decide +kernel, rfl, by decide +kernel, by decide +kernel⟩
abbrev sPool : Stmt := topS 33
abbrev nPool : List Str := ["_law_cell_here", "_law_digits"]
abbrev pPool : List Str := ["_law_cell_here"]
theorem scPool : FnScope nPool pPool (defScope sPool) := ⟨rfl, rfl, rfl, by decide +kernel, rfl, by decide +kernel, by decide +kernel⟩
abbrev sDraw : Stmt := topS 34
abbrev nDraw : List Str := ["_law_pool_here", "_law_many", "_law_mixed", "_law_digit"]
abbrev pDraw : List Str := ["_law_pool_here", "_law_many"]
theorem scDraw : FnScope nDraw pDraw (defScope sDraw) := ⟨rfl, rfl, rfl, by decide +kernel, rfl, by decide +kernel, by decide +kernel⟩
abbrev sCalls : Stmt := topS 35
abbrev nCalls : List Str := ["_law_pool_here", "_law_many", "_law_own", "_law_begin", "_law_mode", "_law_letters", "_law_stem", "_law_cut", "_law_k"]
abbrev pCalls : List Str := ["_law_pool_here", "_law_many"]
theorem scCalls : FnScope nCalls pCalls (defScope sCalls) := ⟨rfl, rfl, rfl, by decide +kernel, rfl, by decide +kernel, by decide +kernel⟩
abbrev sError : Stmt := topS 36
abbrev nError : List Str := ["_law_e", "_law_found", "_law_bases", "_law_own", "_law_at"]
abbrev pError : List Str := ["_law_e"]
theorem scError : FnScope nError pError (defScope sError) := ⟨rfl, rfl, rfl, by decide +kernel, rfl, by decide +kernel, by decide +kernel⟩
abbrev sCaught : Stmt := topS 37
abbrev nCaught : List Str := ["_law_act", "_law_e", "_law_at"]
abbrev pCaught : List Str := ["_law_act"]
theorem scCaught : FnScope nCaught pCaught (defScope sCaught) := ⟨rfl, rfl, rfl, by decide +kernel, rfl, by decide +kernel, by decide +kernel⟩
abbrev sBad : Stmt := topS 38
abbrev nBad : List Str := ["_law_pool_here", "_law_calls_here", "_law_at", "_law_found", "_law_odd"]
abbrev pBad : List Str := ["_law_pool_here", "_law_calls_here"]
theorem scBad : FnScope nBad pBad (defScope sBad) := ⟨rfl, rfl, rfl, by decide +kernel, rfl, by decide +kernel, by decide +kernel⟩
abbrev sLMade : Stmt := topS 39
abbrev nLMade : List Str := ["_law_front", "_law_rear"]
abbrev pLMade : List Str := ["_law_front", "_law_rear"]
theorem scLMade : FnScope nLMade pLMade (defScope sLMade) := ⟨rfl, rfl, rfl, by decide +kernel, rfl, by decide +kernel, by decide +kernel⟩
abbrev sShown : Stmt := topS 40
abbrev nShown : List Str := ["_law_box", "_law_front", "_law_rear", "_law_told"]
abbrev pShown : List Str := ["_law_box", "_law_front", "_law_rear"]
theorem scShown : FnScope nShown pShown (defScope sShown) := ⟨rfl, rfl, rfl, by decide +kernel, rfl, by decide +kernel, by decide +kernel⟩
abbrev sRight : Stmt := topS 41
abbrev nRight : List Str := ["_law_pool_here", "_law_front", "_law_rear", "_law_boxes", "_law_bad_here", "_law_k", "_law_odd", "_law_due", "_law_box"]
abbrev pRight : List Str := ["_law_pool_here"]
theorem scRight : FnScope nRight pRight (defScope sRight) := ⟨rfl, rfl, rfl, by decide +kernel, rfl, by decide +kernel, by decide +kernel⟩
abbrev sOfRight : Stmt := topS 42
abbrev nOfRight : List Str := ["_law_odd", "_law_due", "_law_some"]
abbrev pOfRight : List Str := []
theorem scOfRight : FnScope nOfRight pOfRight (defScope sOfRight) := ⟨rfl, rfl, rfl, by decide +kernel, rfl, by decide +kernel, by decide +kernel⟩
abbrev sLaw : Stmt := topS 43
abbrev nLaw : List Str := ["_law_script", "_law_k"]
abbrev pLaw : List Str := ["_law_script"]
theorem scLaw : FnScope nLaw pLaw (defScope sLaw) := ⟨rfl, rfl, rfl, by decide +kernel, rfl, by decide +kernel, by decide +kernel⟩
abbrev sHInit : Stmt := inClass (topS 30) 0
abbrev nHInit : List Str := ["self", "past", "future"]
abbrev pHInit : List Str := ["self", "past", "future"]
theorem scHInit : FnScope nHInit pHInit (defScope sHInit) := ⟨rfl, rfl, rfl, by decide +kernel, rfl, by decide +kernel, by decide +kernel⟩
abbrev sHLine : Stmt := inClass (topS 30) 2
abbrev nHLine : List Str := ["self"]
abbrev pHLine : List Str := ["self"]
theorem scHLine : FnScope nHLine pHLine (defScope sHLine) := ⟨rfl, rfl, rfl, by decide +kernel, rfl, by decide +kernel, by decide +kernel⟩
abbrev sHDo : Stmt := inClass (topS 30) 3
abbrev nHDo : List Str := ["self", "name"]
abbrev pHDo : List Str := ["self", "name"]
theorem scHDo : FnScope nHDo pHDo (defScope sHDo) := ⟨rfl, rfl, rfl, by decide +kernel, rfl, by decide +kernel, by decide +kernel⟩
abbrev sHUndo : Stmt := inClass (topS 30) 4
abbrev nHUndo : List Str := ["self", "amount", "kept"]
abbrev pHUndo : List Str := ["self", "amount"]
theorem scHUndo : FnScope nHUndo pHUndo (defScope sHUndo) := ⟨rfl, rfl, rfl, by decide +kernel, rfl, by decide +kernel, by decide +kernel⟩
abbrev sHRedo : Stmt := inClass (topS 30) 5
abbrev nHRedo : List Str := ["self", "amount", "moved"]
abbrev pHRedo : List Str := ["self", "amount"]
theorem scHRedo : FnScope nHRedo pHRedo (defScope sHRedo) := ⟨rfl, rfl, rfl, by decide +kernel, rfl, by decide +kernel, by decide +kernel⟩
abbrev sHEq : Stmt := inClass (topS 30) 8
abbrev nHEq : List Str := ["self", "other"]
abbrev pHEq : List Str := ["self", "other"]
theorem scHEq : FnScope nHEq pHEq (defScope sHEq) := ⟨rfl, rfl, rfl, by decide +kernel, rfl, by decide +kernel, by decide +kernel⟩
abbrev sHOf : Stmt := inClass (topS 30) 1
abbrev nHOf : List Str := ["cls", "names"]
abbrev pHOf : List Str := ["cls", "names"]
theorem scHOf : FnScope nHOf pHOf (defScope sHOf) := ⟨rfl, rfl, rfl, by decide +kernel, rfl, by decide +kernel, by decide +kernel⟩
abbrev sHLen : Stmt := inClass (topS 30) 6
abbrev nHLen : List Str := ["self"]
abbrev pHLen : List Str := ["self"]
theorem scHLen : FnScope nHLen pHLen (defScope sHLen) := ⟨rfl, rfl, rfl, by decide +kernel, rfl, by decide +kernel, by decide +kernel⟩
abbrev sEInvalidName : Stmt := inClass (topS 2) 0
abbrev nEInvalidName : List Str := ["self", "name"]
abbrev pEInvalidName : List Str := ["self", "name"]
theorem scEInvalidName : FnScope nEInvalidName pEInvalidName (defScope sEInvalidName) := ⟨rfl, rfl, rfl, by decide +kernel, rfl, by decide +kernel, by decide +kernel⟩
abbrev sEInvalidNames : Stmt := inClass (topS 3) 0
abbrev nEInvalidNames : List Str := ["self", "index"]
abbrev pEInvalidNames : List Str := ["self", "index"]
theorem scEInvalidNames : FnScope nEInvalidNames pEInvalidNames (defScope sEInvalidNames) := ⟨rfl, rfl, rfl, by decide +kernel, rfl, by decide +kernel, by decide +kernel⟩
abbrev sEInvalidAmount : Stmt := inClass (topS 4) 0
abbrev nEInvalidAmount : List Str := ["self", "amount"]
abbrev pEInvalidAmount : List Str := ["self", "amount"]
theorem scEInvalidAmount : FnScope nEInvalidAmount pEInvalidAmount (defScope sEInvalidAmount) := ⟨rfl, rfl, rfl, by decide +kernel, rfl, by decide +kernel, by decide +kernel⟩
abbrev sEInvalidProgram : Stmt := inClass (topS 5) 0
abbrev nEInvalidProgram : List Str := ["self", "index"]
abbrev pEInvalidProgram : List Str := ["self", "index"]
theorem scEInvalidProgram : FnScope nEInvalidProgram pEInvalidProgram (defScope sEInvalidProgram) := ⟨rfl, rfl, rfl, by decide +kernel, rfl, by decide +kernel, by decide +kernel⟩
abbrev sEInvalidText : Stmt := inClass (topS 6) 0
abbrev nEInvalidText : List Str := ["self", "text"]
abbrev pEInvalidText : List Str := ["self", "text"]
theorem scEInvalidText : FnScope nEInvalidText pEInvalidText (defScope sEInvalidText) := ⟨rfl, rfl, rfl, by decide +kernel, rfl, by decide +kernel, by decide +kernel⟩
abbrev sEInvalidLength : Stmt := inClass (topS 7) 0
abbrev nEInvalidLength : List Str := ["self", "length"]
abbrev pEInvalidLength : List Str := ["self", "length"]
theorem scEInvalidLength : FnScope nEInvalidLength pEInvalidLength (defScope sEInvalidLength) := ⟨rfl, rfl, rfl, by decide +kernel, rfl, by decide +kernel, by decide +kernel⟩
abbrev sEInvalidCount : Stmt := inClass (topS 8) 0
abbrev nEInvalidCount : List Str := ["self", "count"]
abbrev pEInvalidCount : List Str := ["self", "count"]
theorem scEInvalidCount : FnScope nEInvalidCount pEInvalidCount (defScope sEInvalidCount) := ⟨rfl, rfl, rfl, by decide +kernel, rfl, by decide +kernel, by decide +kernel⟩
abbrev sEInvalidChanges : Stmt := inClass (topS 9) 0
abbrev nEInvalidChanges : List Str := ["self", "index"]
abbrev pEInvalidChanges : List Str := ["self", "index"]
theorem scEInvalidChanges : FnScope nEInvalidChanges pEInvalidChanges (defScope sEInvalidChanges) := ⟨rfl, rfl, rfl, by decide +kernel, rfl, by decide +kernel, by decide +kernel⟩
abbrev sEInvalidObservations : Stmt := inClass (topS 10) 0
abbrev nEInvalidObservations : List Str := ["self", "index"]
abbrev pEInvalidObservations : List Str := ["self", "index"]
theorem scEInvalidObservations : FnScope nEInvalidObservations pEInvalidObservations (defScope sEInvalidObservations) := ⟨rfl, rfl, rfl, by decide +kernel, rfl, by decide +kernel, by decide +kernel⟩
abbrev sEInvalidLimit : Stmt := inClass (topS 11) 0
abbrev nEInvalidLimit : List Str := ["self", "value"]
abbrev pEInvalidLimit : List Str := ["self", "value"]
theorem scEInvalidLimit : FnScope nEInvalidLimit pEInvalidLimit (defScope sEInvalidLimit) := ⟨rfl, rfl, rfl, by decide +kernel, rfl, by decide +kernel, by decide +kernel⟩
abbrev sEInvalidLine : Stmt := inClass (topS 12) 0
abbrev nEInvalidLine : List Str := ["self", "text"]
abbrev pEInvalidLine : List Str := ["self", "text"]
theorem scEInvalidLine : FnScope nEInvalidLine pEInvalidLine (defScope sEInvalidLine) := ⟨rfl, rfl, rfl, by decide +kernel, rfl, by decide +kernel, by decide +kernel⟩
abbrev sENotAHistory : Stmt := inClass (topS 13) 0
abbrev nENotAHistory : List Str := ["self", "value"]
abbrev pENotAHistory : List Str := ["self", "value"]
theorem scENotAHistory : FnScope nENotAHistory pENotAHistory (defScope sENotAHistory) := ⟨rfl, rfl, rfl, by decide +kernel, rfl, by decide +kernel, by decide +kernel⟩
abbrev sENotAProgram : Stmt := inClass (topS 14) 0
abbrev nENotAProgram : List Str := ["self", "value"]
abbrev pENotAProgram : List Str := ["self", "value"]
theorem scENotAProgram : FnScope nENotAProgram pENotAProgram (defScope sENotAProgram) := ⟨rfl, rfl, rfl, by decide +kernel, rfl, by decide +kernel, by decide +kernel⟩
abbrev sENotAnEffect : Stmt := inClass (topS 15) 0
abbrev nENotAnEffect : List Str := ["self", "value"]
abbrev pENotAnEffect : List Str := ["self", "value"]
theorem scENotAnEffect : FnScope nENotAnEffect pENotAnEffect (defScope sENotAnEffect) := ⟨rfl, rfl, rfl, by decide +kernel, rfl, by decide +kernel, by decide +kernel⟩
abbrev sETooManyDiscarded : Stmt := inClass (topS 20) 0
abbrev nETooManyDiscarded : List Str := ["self", "count"]
abbrev pETooManyDiscarded : List Str := ["self", "count"]
theorem scETooManyDiscarded : FnScope nETooManyDiscarded pETooManyDiscarded (defScope sETooManyDiscarded) := ⟨rfl, rfl, rfl, by decide +kernel, rfl, by decide +kernel, by decide +kernel⟩

structure TX (K : PySem.W.Frag) (mg : Str → Option Value) : Type where
  f_is_name : Addr
  fd_is_name : FuncData
  d_is_name : FD K mg "is_name" sIsName pIsName f_is_name fd_is_name
  f_is_amount : Addr
  fd_is_amount : FuncData
  d_is_amount : FD K mg "is_amount" sIsAm pIsAm f_is_amount fd_is_amount
  f_check_name : Addr
  fd_check_name : FuncData
  d_check_name : FD K mg "check_name" sChName pChName f_check_name fd_check_name
  f_check_names : Addr
  fd_check_names : FuncData
  d_check_names : FD K mg "check_names" sChNames pChNames f_check_names fd_check_names
  f_check_amount : Addr
  fd_check_amount : FuncData
  d_check_amount : FD K mg "check_amount" sChAm pChAm f_check_amount fd_check_amount
  f_number_moved : Addr
  fd_number_moved : FuncData
  d_number_moved : FD K mg "number_moved" sMoved pMoved f_number_moved fd_number_moved
  f_history_with : Addr
  fd_history_with : FuncData
  d_history_with : FD K mg "history_with" sHWith pHWith f_history_with fd_history_with
  f_law_cell : Addr
  fd_law_cell : FuncData
  d_law_cell : FD K mg "_law_cell" sCell pCell f_law_cell fd_law_cell
  f_law_pool : Addr
  fd_law_pool : FuncData
  d_law_pool : FD K mg "_law_pool" sPool pPool f_law_pool fd_law_pool
  f_law_draw : Addr
  fd_law_draw : FuncData
  d_law_draw : FD K mg "_law_draw" sDraw pDraw f_law_draw fd_law_draw
  f_law_calls : Addr
  fd_law_calls : FuncData
  d_law_calls : FD K mg "_law_calls" sCalls pCalls f_law_calls fd_law_calls
  f_law_error : Addr
  fd_law_error : FuncData
  d_law_error : FD K mg "_law_error" sError pError f_law_error fd_law_error
  f_law_caught : Addr
  fd_law_caught : FuncData
  d_law_caught : FD K mg "_law_caught" sCaught pCaught f_law_caught fd_law_caught
  f_law_bad : Addr
  fd_law_bad : FuncData
  d_law_bad : FD K mg "_law_bad" sBad pBad f_law_bad fd_law_bad
  f_law_made : Addr
  fd_law_made : FuncData
  d_law_made : FD K mg "_law_made" sLMade pLMade f_law_made fd_law_made
  c_law_made : Addr
  P_law_made : Addr
  dc_law_made : FunC K "_law_made" sLMade f_law_made fd_law_made c_law_made
  f_law_shown_right : Addr
  fd_law_shown_right : FuncData
  d_law_shown_right : FD K mg "_law_shown_right" sShown pShown f_law_shown_right fd_law_shown_right
  f_law_right : Addr
  fd_law_right : FuncData
  d_law_right : FD K mg "_law_right" sRight pRight f_law_right fd_law_right
  f_law_of_right : Addr
  fd_law_of_right : FuncData
  d_law_of_right : FD K mg "_law_of_right" sOfRight pOfRight f_law_of_right fd_law_of_right
  c_law_of_right : Addr
  P_law_of_right : Addr
  dc_law_of_right : FunC K "_law_of_right" sOfRight f_law_of_right fd_law_of_right c_law_of_right
  f_law : Addr
  fd_law : FuncData
  d_law : FD K mg "law" sLaw pLaw f_law fd_law
  abs : mg "abs" = none
  all : mg "all" = none
  any : mg "any" = none
  bool : mg "bool" = none
  divmod : mg "divmod" = none
  enumerate : mg "enumerate" = none
  int : mg "int" = none
  isinstance : mg "isinstance" = none
  len : mg "len" = none
  list : mg "list" = none
  max : mg "max" = none
  min : mg "min" = none
  range : mg "range" = none
  repr : mg "repr" = none
  str : mg "str" = none
  tuple : mg "tuple" = none
  ValueError : mg "ValueError" = none
  LookupError : mg "LookupError" = none
  ArithmeticError : mg "ArithmeticError" = none
  mLONGEST_NAME : ∃ t, mg "LONGEST_NAME" = some (.int 8 t)
  C_UndoError : Addr
  m_UndoError : mg "UndoError" = some (.ref C_UndoError)
  cx_UndoError : ClsX K C_UndoError
  bx_UndoError : PySem.W.subIn K (.ref C_UndoError) (.type "BaseException") = some true
  C_StateError : Addr
  m_StateError : mg "StateError" = some (.ref C_StateError)
  cx_StateError : ClsX K C_StateError
  bx_StateError : PySem.W.subIn K (.ref C_StateError) (.type "BaseException") = some true
  C_LimitError : Addr
  m_LimitError : mg "LimitError" = some (.ref C_LimitError)
  cx_LimitError : ClsX K C_LimitError
  bx_LimitError : PySem.W.subIn K (.ref C_LimitError) (.type "BaseException") = some true
  C_InvalidName : Addr
  m_InvalidName : mg "InvalidName" = some (.ref C_InvalidName)
  ec_InvalidName : ErrC K C_InvalidName [C_UndoError] "ValueError.__new__" [.type "ValueError", .type "Exception", .type "BaseException", .type "object"]
  f_InvalidName_init : Addr
  fd_InvalidName_init : FuncData
  F_InvalidName_init : FunD K "__init__" "InvalidName.__init__" (defArgs sEInvalidName) (defBody sEInvalidName) (defScope sEInvalidName) [] [] f_InvalidName_init fd_InvalidName_init
  b_InvalidName_init : Binds K fd_InvalidName_init pEInvalidName []
  kb_InvalidName_init : KBinds K fd_InvalidName_init pEInvalidName ["name"] (gK 1 1) (gK 1 1)
  ei_InvalidName : ErrI K C_InvalidName f_InvalidName_init
  nf_InvalidName : PySem.W.findIn K (.ref C_InvalidName) "name" = some none
  C_InvalidNames : Addr
  m_InvalidNames : mg "InvalidNames" = some (.ref C_InvalidNames)
  ec_InvalidNames : ErrC K C_InvalidNames [C_UndoError] "ValueError.__new__" [.type "ValueError", .type "Exception", .type "BaseException", .type "object"]
  f_InvalidNames_init : Addr
  fd_InvalidNames_init : FuncData
  F_InvalidNames_init : FunD K "__init__" "InvalidNames.__init__" (defArgs sEInvalidNames) (defBody sEInvalidNames) (defScope sEInvalidNames) [] [] f_InvalidNames_init fd_InvalidNames_init
  b_InvalidNames_init : Binds K fd_InvalidNames_init pEInvalidNames []
  kb_InvalidNames_init : KBinds K fd_InvalidNames_init pEInvalidNames ["index"] (gK 1 1) (gK 1 1)
  ei_InvalidNames : ErrI K C_InvalidNames f_InvalidNames_init
  nf_InvalidNames : PySem.W.findIn K (.ref C_InvalidNames) "index" = some none
  C_InvalidAmount : Addr
  m_InvalidAmount : mg "InvalidAmount" = some (.ref C_InvalidAmount)
  ec_InvalidAmount : ErrC K C_InvalidAmount [C_UndoError] "ValueError.__new__" [.type "ValueError", .type "Exception", .type "BaseException", .type "object"]
  f_InvalidAmount_init : Addr
  fd_InvalidAmount_init : FuncData
  F_InvalidAmount_init : FunD K "__init__" "InvalidAmount.__init__" (defArgs sEInvalidAmount) (defBody sEInvalidAmount) (defScope sEInvalidAmount) [] [] f_InvalidAmount_init fd_InvalidAmount_init
  b_InvalidAmount_init : Binds K fd_InvalidAmount_init pEInvalidAmount []
  kb_InvalidAmount_init : KBinds K fd_InvalidAmount_init pEInvalidAmount ["amount"] (gK 1 1) (gK 1 1)
  ei_InvalidAmount : ErrI K C_InvalidAmount f_InvalidAmount_init
  nf_InvalidAmount : PySem.W.findIn K (.ref C_InvalidAmount) "amount" = some none
  C_InvalidProgram : Addr
  m_InvalidProgram : mg "InvalidProgram" = some (.ref C_InvalidProgram)
  ec_InvalidProgram : ErrC K C_InvalidProgram [C_UndoError] "ValueError.__new__" [.type "ValueError", .type "Exception", .type "BaseException", .type "object"]
  f_InvalidProgram_init : Addr
  fd_InvalidProgram_init : FuncData
  F_InvalidProgram_init : FunD K "__init__" "InvalidProgram.__init__" (defArgs sEInvalidProgram) (defBody sEInvalidProgram) (defScope sEInvalidProgram) [] [] f_InvalidProgram_init fd_InvalidProgram_init
  b_InvalidProgram_init : Binds K fd_InvalidProgram_init pEInvalidProgram []
  kb_InvalidProgram_init : KBinds K fd_InvalidProgram_init pEInvalidProgram ["index"] (gK 1 1) (gK 1 1)
  ei_InvalidProgram : ErrI K C_InvalidProgram f_InvalidProgram_init
  nf_InvalidProgram : PySem.W.findIn K (.ref C_InvalidProgram) "index" = some none
  C_InvalidText : Addr
  m_InvalidText : mg "InvalidText" = some (.ref C_InvalidText)
  ec_InvalidText : ErrC K C_InvalidText [C_UndoError] "ValueError.__new__" [.type "ValueError", .type "Exception", .type "BaseException", .type "object"]
  f_InvalidText_init : Addr
  fd_InvalidText_init : FuncData
  F_InvalidText_init : FunD K "__init__" "InvalidText.__init__" (defArgs sEInvalidText) (defBody sEInvalidText) (defScope sEInvalidText) [] [] f_InvalidText_init fd_InvalidText_init
  b_InvalidText_init : Binds K fd_InvalidText_init pEInvalidText []
  kb_InvalidText_init : KBinds K fd_InvalidText_init pEInvalidText ["text"] (gK 1 1) (gK 1 1)
  ei_InvalidText : ErrI K C_InvalidText f_InvalidText_init
  nf_InvalidText : PySem.W.findIn K (.ref C_InvalidText) "text" = some none
  C_InvalidLength : Addr
  m_InvalidLength : mg "InvalidLength" = some (.ref C_InvalidLength)
  ec_InvalidLength : ErrC K C_InvalidLength [C_UndoError] "ValueError.__new__" [.type "ValueError", .type "Exception", .type "BaseException", .type "object"]
  f_InvalidLength_init : Addr
  fd_InvalidLength_init : FuncData
  F_InvalidLength_init : FunD K "__init__" "InvalidLength.__init__" (defArgs sEInvalidLength) (defBody sEInvalidLength) (defScope sEInvalidLength) [] [] f_InvalidLength_init fd_InvalidLength_init
  b_InvalidLength_init : Binds K fd_InvalidLength_init pEInvalidLength []
  kb_InvalidLength_init : KBinds K fd_InvalidLength_init pEInvalidLength ["length"] (gK 1 1) (gK 1 1)
  ei_InvalidLength : ErrI K C_InvalidLength f_InvalidLength_init
  nf_InvalidLength : PySem.W.findIn K (.ref C_InvalidLength) "length" = some none
  C_InvalidCount : Addr
  m_InvalidCount : mg "InvalidCount" = some (.ref C_InvalidCount)
  ec_InvalidCount : ErrC K C_InvalidCount [C_UndoError] "ValueError.__new__" [.type "ValueError", .type "Exception", .type "BaseException", .type "object"]
  f_InvalidCount_init : Addr
  fd_InvalidCount_init : FuncData
  F_InvalidCount_init : FunD K "__init__" "InvalidCount.__init__" (defArgs sEInvalidCount) (defBody sEInvalidCount) (defScope sEInvalidCount) [] [] f_InvalidCount_init fd_InvalidCount_init
  b_InvalidCount_init : Binds K fd_InvalidCount_init pEInvalidCount []
  kb_InvalidCount_init : KBinds K fd_InvalidCount_init pEInvalidCount ["count"] (gK 1 1) (gK 1 1)
  ei_InvalidCount : ErrI K C_InvalidCount f_InvalidCount_init
  nf_InvalidCount : PySem.W.findIn K (.ref C_InvalidCount) "count" = some none
  C_InvalidChanges : Addr
  m_InvalidChanges : mg "InvalidChanges" = some (.ref C_InvalidChanges)
  ec_InvalidChanges : ErrC K C_InvalidChanges [C_UndoError] "ValueError.__new__" [.type "ValueError", .type "Exception", .type "BaseException", .type "object"]
  f_InvalidChanges_init : Addr
  fd_InvalidChanges_init : FuncData
  F_InvalidChanges_init : FunD K "__init__" "InvalidChanges.__init__" (defArgs sEInvalidChanges) (defBody sEInvalidChanges) (defScope sEInvalidChanges) [] [] f_InvalidChanges_init fd_InvalidChanges_init
  b_InvalidChanges_init : Binds K fd_InvalidChanges_init pEInvalidChanges []
  kb_InvalidChanges_init : KBinds K fd_InvalidChanges_init pEInvalidChanges ["index"] (gK 1 1) (gK 1 1)
  ei_InvalidChanges : ErrI K C_InvalidChanges f_InvalidChanges_init
  nf_InvalidChanges : PySem.W.findIn K (.ref C_InvalidChanges) "index" = some none
  C_InvalidObservations : Addr
  m_InvalidObservations : mg "InvalidObservations" = some (.ref C_InvalidObservations)
  ec_InvalidObservations : ErrC K C_InvalidObservations [C_UndoError] "ValueError.__new__" [.type "ValueError", .type "Exception", .type "BaseException", .type "object"]
  f_InvalidObservations_init : Addr
  fd_InvalidObservations_init : FuncData
  F_InvalidObservations_init : FunD K "__init__" "InvalidObservations.__init__" (defArgs sEInvalidObservations) (defBody sEInvalidObservations) (defScope sEInvalidObservations) [] [] f_InvalidObservations_init fd_InvalidObservations_init
  b_InvalidObservations_init : Binds K fd_InvalidObservations_init pEInvalidObservations []
  kb_InvalidObservations_init : KBinds K fd_InvalidObservations_init pEInvalidObservations ["index"] (gK 1 1) (gK 1 1)
  ei_InvalidObservations : ErrI K C_InvalidObservations f_InvalidObservations_init
  nf_InvalidObservations : PySem.W.findIn K (.ref C_InvalidObservations) "index" = some none
  C_InvalidLimit : Addr
  m_InvalidLimit : mg "InvalidLimit" = some (.ref C_InvalidLimit)
  ec_InvalidLimit : ErrC K C_InvalidLimit [C_UndoError] "ValueError.__new__" [.type "ValueError", .type "Exception", .type "BaseException", .type "object"]
  f_InvalidLimit_init : Addr
  fd_InvalidLimit_init : FuncData
  F_InvalidLimit_init : FunD K "__init__" "InvalidLimit.__init__" (defArgs sEInvalidLimit) (defBody sEInvalidLimit) (defScope sEInvalidLimit) [] [] f_InvalidLimit_init fd_InvalidLimit_init
  b_InvalidLimit_init : Binds K fd_InvalidLimit_init pEInvalidLimit []
  kb_InvalidLimit_init : KBinds K fd_InvalidLimit_init pEInvalidLimit ["value"] (gK 1 1) (gK 1 1)
  ei_InvalidLimit : ErrI K C_InvalidLimit f_InvalidLimit_init
  nf_InvalidLimit : PySem.W.findIn K (.ref C_InvalidLimit) "value" = some none
  C_InvalidLine : Addr
  m_InvalidLine : mg "InvalidLine" = some (.ref C_InvalidLine)
  ec_InvalidLine : ErrC K C_InvalidLine [C_UndoError] "ValueError.__new__" [.type "ValueError", .type "Exception", .type "BaseException", .type "object"]
  f_InvalidLine_init : Addr
  fd_InvalidLine_init : FuncData
  F_InvalidLine_init : FunD K "__init__" "InvalidLine.__init__" (defArgs sEInvalidLine) (defBody sEInvalidLine) (defScope sEInvalidLine) [] [] f_InvalidLine_init fd_InvalidLine_init
  b_InvalidLine_init : Binds K fd_InvalidLine_init pEInvalidLine []
  kb_InvalidLine_init : KBinds K fd_InvalidLine_init pEInvalidLine ["text"] (gK 1 1) (gK 1 1)
  ei_InvalidLine : ErrI K C_InvalidLine f_InvalidLine_init
  nf_InvalidLine : PySem.W.findIn K (.ref C_InvalidLine) "text" = some none
  C_NotAHistory : Addr
  m_NotAHistory : mg "NotAHistory" = some (.ref C_NotAHistory)
  ec_NotAHistory : ErrC K C_NotAHistory [C_UndoError] "ValueError.__new__" [.type "ValueError", .type "Exception", .type "BaseException", .type "object"]
  f_NotAHistory_init : Addr
  fd_NotAHistory_init : FuncData
  F_NotAHistory_init : FunD K "__init__" "NotAHistory.__init__" (defArgs sENotAHistory) (defBody sENotAHistory) (defScope sENotAHistory) [] [] f_NotAHistory_init fd_NotAHistory_init
  b_NotAHistory_init : Binds K fd_NotAHistory_init pENotAHistory []
  kb_NotAHistory_init : KBinds K fd_NotAHistory_init pENotAHistory ["value"] (gK 1 1) (gK 1 1)
  ei_NotAHistory : ErrI K C_NotAHistory f_NotAHistory_init
  nf_NotAHistory : PySem.W.findIn K (.ref C_NotAHistory) "value" = some none
  C_NotAProgram : Addr
  m_NotAProgram : mg "NotAProgram" = some (.ref C_NotAProgram)
  ec_NotAProgram : ErrC K C_NotAProgram [C_UndoError] "ValueError.__new__" [.type "ValueError", .type "Exception", .type "BaseException", .type "object"]
  f_NotAProgram_init : Addr
  fd_NotAProgram_init : FuncData
  F_NotAProgram_init : FunD K "__init__" "NotAProgram.__init__" (defArgs sENotAProgram) (defBody sENotAProgram) (defScope sENotAProgram) [] [] f_NotAProgram_init fd_NotAProgram_init
  b_NotAProgram_init : Binds K fd_NotAProgram_init pENotAProgram []
  kb_NotAProgram_init : KBinds K fd_NotAProgram_init pENotAProgram ["value"] (gK 1 1) (gK 1 1)
  ei_NotAProgram : ErrI K C_NotAProgram f_NotAProgram_init
  nf_NotAProgram : PySem.W.findIn K (.ref C_NotAProgram) "value" = some none
  C_NotAnEffect : Addr
  m_NotAnEffect : mg "NotAnEffect" = some (.ref C_NotAnEffect)
  ec_NotAnEffect : ErrC K C_NotAnEffect [C_UndoError] "ValueError.__new__" [.type "ValueError", .type "Exception", .type "BaseException", .type "object"]
  f_NotAnEffect_init : Addr
  fd_NotAnEffect_init : FuncData
  F_NotAnEffect_init : FunD K "__init__" "NotAnEffect.__init__" (defArgs sENotAnEffect) (defBody sENotAnEffect) (defScope sENotAnEffect) [] [] f_NotAnEffect_init fd_NotAnEffect_init
  b_NotAnEffect_init : Binds K fd_NotAnEffect_init pENotAnEffect []
  kb_NotAnEffect_init : KBinds K fd_NotAnEffect_init pENotAnEffect ["value"] (gK 1 1) (gK 1 1)
  ei_NotAnEffect : ErrI K C_NotAnEffect f_NotAnEffect_init
  nf_NotAnEffect : PySem.W.findIn K (.ref C_NotAnEffect) "value" = some none
  C_CannotRevert : Addr
  m_CannotRevert : mg "CannotRevert" = some (.ref C_CannotRevert)
  ec_CannotRevert : ErrC K C_CannotRevert [C_StateError] "LookupError.__new__" [.type "LookupError", .type "Exception", .type "BaseException", .type "object"]
  ex_CannotRevert : PySem.W.excIn K C_CannotRevert [.type "LookupError", .type "Exception", .type "BaseException", .type "object"] "LookupError.__new__" = true
  C_Busy : Addr
  m_Busy : mg "Busy" = some (.ref C_Busy)
  ec_Busy : ErrC K C_Busy [C_StateError] "LookupError.__new__" [.type "LookupError", .type "Exception", .type "BaseException", .type "object"]
  ex_Busy : PySem.W.excIn K C_Busy [.type "LookupError", .type "Exception", .type "BaseException", .type "object"] "LookupError.__new__" = true
  C_TooManyDiscarded : Addr
  m_TooManyDiscarded : mg "TooManyDiscarded" = some (.ref C_TooManyDiscarded)
  ec_TooManyDiscarded : ErrC K C_TooManyDiscarded [C_LimitError] "ArithmeticError.__new__" [.type "ArithmeticError", .type "Exception", .type "BaseException", .type "object"]
  f_TooManyDiscarded_init : Addr
  fd_TooManyDiscarded_init : FuncData
  F_TooManyDiscarded_init : FunD K "__init__" "TooManyDiscarded.__init__" (defArgs sETooManyDiscarded) (defBody sETooManyDiscarded) (defScope sETooManyDiscarded) [] [] f_TooManyDiscarded_init fd_TooManyDiscarded_init
  b_TooManyDiscarded_init : Binds K fd_TooManyDiscarded_init pETooManyDiscarded []
  kb_TooManyDiscarded_init : KBinds K fd_TooManyDiscarded_init pETooManyDiscarded ["count"] (gK 1 1) (gK 1 1)
  ei_TooManyDiscarded : ErrI K C_TooManyDiscarded f_TooManyDiscarded_init
  nf_TooManyDiscarded : PySem.W.findIn K (.ref C_TooManyDiscarded) "count" = some none
  clsg : ClsG K
  nd_err : [C_InvalidName, C_InvalidNames, C_InvalidAmount, C_InvalidProgram, C_InvalidText, C_InvalidLength, C_InvalidCount, C_InvalidChanges, C_InvalidObservations, C_InvalidLimit, C_InvalidLine, C_NotAHistory, C_NotAProgram, C_NotAnEffect, C_CannotRevert, C_Busy, C_TooManyDiscarded, C_UndoError, C_StateError, C_LimitError].Nodup
  C_History : Addr
  m_History : mg "History" = some (.ref C_History)
  cl_History : Cls K C_History
  is_History : C8.InsC K C_History
  kt_History_NoneType : PySem.W.kitOne K (.type "NoneType") (.ref C_History) = some false
  kt_History_int : PySem.W.kitOne K (.type "int") (.ref C_History) = some false
  kt_History_bool : PySem.W.kitOne K (.type "bool") (.ref C_History) = some false
  kt_History_str : PySem.W.kitOne K (.type "str") (.ref C_History) = some false
  kt_History_tuple : PySem.W.kitOne K (.type "tuple") (.ref C_History) = some false
  kt_History_list : PySem.W.kitOne K (.type "list") (.ref C_History) = some false
  kt_History_dict : PySem.W.kitOne K (.type "dict") (.ref C_History) = some false
  n_History_past : NoAttr K C_History "past"
  n_History_future : NoAttr K C_History "future"
  n_History___bool__ : NoAttr K C_History "__bool__"
  f_History_init : Addr
  fd_History_init : FuncData
  e0_History_init : Addr
  t0_History_init : ∀ H, SqT K H e0_History_init []
  e1_History_init : Addr
  t1_History_init : ∀ H, SqT K H e1_History_init []
  F_History_init : FunD K "__init__" "History.__init__" (defArgs sHInit) (defBody sHInit) (defScope sHInit) [V.ref e0_History_init, V.ref e1_History_init] [] f_History_init fd_History_init
  kd0_History_init : KwD K fd_History_init pHInit 1 ["future", "past"] [V.ref e0_History_init, V.ref e1_History_init] g2r
  kd1_History_init : KwD K fd_History_init pHInit 1 ["future"] [V.ref e0_History_init, V.ref e1_History_init] g2f
  mk_History : Mk K C_History f_History_init
  ds0_History_init : List Value
  v0_History_init : Vals [V.ref e0_History_init, V.ref e1_History_init] ds0_History_init
  b0_History_init : Binds K fd_History_init pHInit ds0_History_init
  ds1_History_init : List Value
  v1_History_init : Vals [V.ref e1_History_init] ds1_History_init
  b1_History_init : Binds K fd_History_init pHInit ds1_History_init
  ds2_History_init : List Value
  v2_History_init : Vals [] ds2_History_init
  b2_History_init : Binds K fd_History_init pHInit ds2_History_init
  f_History_line : Addr
  fd_History_line : FuncData
  F_History_line : FunD K "line" "History.line" (defArgs sHLine) (defBody sHLine) (defScope sHLine) [] [] f_History_line fd_History_line
  q_History_line : Addr
  pr_History_line : PropOf K C_History "line" q_History_line f_History_line
  b_History_line : Binds K fd_History_line pHLine []
  f_History_do : Addr
  fd_History_do : FuncData
  F_History_do : FunD K "do" "History.do" (defArgs sHDo) (defBody sHDo) (defScope sHDo) [] [] f_History_do fd_History_do
  me_History_do : Meth K C_History "do" f_History_do
  b_History_do : Binds K fd_History_do pHDo []
  f_History_undo : Addr
  fd_History_undo : FuncData
  F_History_undo : FunD K "undo" "History.undo" (defArgs sHUndo) (defBody sHUndo) (defScope sHUndo) [V.int 1] [] f_History_undo fd_History_undo
  me_History_undo : Meth K C_History "undo" f_History_undo
  b_History_undo : Binds K fd_History_undo pHUndo []
  ds0_History_undo : List Value
  v0_History_undo : Vals [V.int 1] ds0_History_undo
  b0_History_undo : Binds K fd_History_undo pHUndo ds0_History_undo
  f_History_redo : Addr
  fd_History_redo : FuncData
  F_History_redo : FunD K "redo" "History.redo" (defArgs sHRedo) (defBody sHRedo) (defScope sHRedo) [V.int 1] [] f_History_redo fd_History_redo
  me_History_redo : Meth K C_History "redo" f_History_redo
  b_History_redo : Binds K fd_History_redo pHRedo []
  ds0_History_redo : List Value
  v0_History_redo : Vals [V.int 1] ds0_History_redo
  b0_History_redo : Binds K fd_History_redo pHRedo ds0_History_redo
  f_History_eq : Addr
  fd_History_eq : FuncData
  F_History_eq : FunD K "__eq__" "History.__eq__" (defArgs sHEq) (defBody sHEq) (defScope sHEq) [] [] f_History_eq fd_History_eq
  eo_History : EqOwn K C_History f_History_eq
  b_History_eq : Binds K fd_History_eq pHEq []
  f_History_of : Addr
  F_History_of : FunS K "of" "History.of" sHOf ["cls"] "names" f_History_of
  q_History_of : Addr
  cm_History_of : ClX.CMet K C_History (.type "type") "of" q_History_of f_History_of
  cr_History : ClX.CRead K C_History (.type "type")
  f_History_len : Addr
  fd_History_len : FuncData
  F_History_len : FunD K "__len__" "History.__len__" (defArgs sHLen) (defBody sHLen) (defScope sHLen) [] [] f_History_len fd_History_len
  ln_History : OwnM K C_History "__len__" f_History_len
  b_History_len : Binds K fd_History_len pHLen []
/-- the tables of those that make lambdas -/
def tS {K : PySem.W.Frag} {mg : Str → Option Value} (T : TX K mg) : List (Addr × Str) := [(T.P_law_made, lamQ "_law_made"), (T.P_law_of_right, lamQ "_law_of_right")]

section
variable {P : Program} {w : World} {K : PySem.W.Frag} {mg : Str → Option Value} {base : Heap}
theorem str_at {ns : List Str} {i : Nat} {x : V} (h : (ns.map V.str)[i]? = some x) : ∃ z, x = .str z ∧ z ∈ ns := by
  rw [List.getElem?_map] at h
  cases e : ns[i]? with
  | none =>
    rw [e] at h
    cases h
  | some z =>
    rw [e] at h
    exact ⟨z, (Option.some.inj h).symm, List.mem_of_getElem? e⟩
/-! ### names -/
def rMB (g : Str → Bool) (x : V) (xs : List V) (H : Hp) (Q : VK) : Prop := ∃ a, x = .str a ∧ xs = [] ∧ True ∧ Q (.bl (g a)) H
theorem mrAscii {X : Cx} : MtR X "str.isascii" (rMB Txt.isascii) := mt_isascii
theorem mrAlpha {X : Cx} : MtR X "str.isalpha" (rMB Txt.isalpha) := mt_isalpha
theorem mrLower {X : Cx} : MtR X "str.islower" (rMB Txt.islower) := mt_islower
theorem mrDigit {X : Cx} : MtR X "str.isdigit" (rMB Txt.isdigit) := mt_isdigit
theorem c_m0 {g : Str → Bool} {te : TE} {σ : L2.St} {H : Hp} {Q : VK} (h : te σ H fun x H1 => (∃ a, x = .str a) ∧ rMB g x [] H1 Q) : tM0 (rMB g) te σ H Q := h
theorem c_rMB {g : Str → Bool} {z : Str} {b : Bool} {H : Hp} {Q : VK} (e : g z = b) (h : Q (.bl b) H) : rMB g (.str z) [] H Q := ⟨z, rfl, rfl, trivial, by rw [e]; exact h⟩
theorem low_table : (∀ c < 123, 97 ≤ c → Unicode.isAlpha c = true) ∧ (∀ c < 123, 97 ≤ c → Unicode.isLower c = true) ∧ ∀ c < 123, 97 ≤ c → (Unicode.isUpper c || Unicode.isTitle c) = false := by decide +kernel
theorem IsName.ascii {z : Str} (h : IsName z) : Txt.isascii z = true := by
  unfold Txt.isascii
  rw [← Array.all_toList, List.all_eq_true]
  exact fun c hc => decide_eq_true (by have := h.low c hc; omega)
theorem IsName.alpha {z : Str} (h : IsName z) : Txt.isalpha z = true := by
  unfold Txt.isalpha
  rw [decide_eq_true (by have := h.lo; omega : z.length > 0), ← Array.all_toList, Bool.true_and, List.all_eq_true]
  exact fun c hc => low_table.1 c (by have := h.low c hc; omega) (h.low c hc).1
theorem IsName.lower {z : Str} (h : IsName z) : Txt.islower z = true := by
  unfold Txt.islower
  rw [← Array.any_toList, ← Array.any_toList]
  have h1 : z.cps.toList.any Unicode.isLower = true := by
    rw [List.any_eq_true]
    have l := h.lo
    rw [← len_codes] at l
    refine ⟨z.cps.toList[0], List.getElem_mem _, ?_⟩
    have := h.low _ (List.getElem_mem (h := l))
    exact low_table.2.1 _ (by omega) this.1
  have h2 : (z.cps.toList.any fun c => Unicode.isUpper c || Unicode.isTitle c) = false := by
    rw [List.any_eq_false]
    intro c hc
    have := h.low c hc
    rw [low_table.2.2 c (by omega) this.1]
    decide
  rw [h1, h2]
  rfl
local macro_rules | `(tactic| walk_at "u") => `(tactic| with_reducible refine c_m0 ?_)
def spIsName : Sp := fun vs H Q _ => ∃ z : Str, vs = [.str z] ∧ IsName z ∧ ∀ H', Same H H' → Q (.bl true) H'
theorem ok_is_name (T : TX K mg) : FnOk P w K mg base CX0 1 T.f_is_name T.fd_is_name pIsName spIsName := by
  refine T.d_is_name.F.ok scIsName (fun vs H Q E h => ?_) (fun cdv A outer s H vs Q E hr h => ?_)
  · obtain ⟨z, rfl, _⟩ := h
    rfl
  · obtain ⟨z, rfl, hz, q⟩ := h
    refine ⟨_, pss_cons (ps_if (PW.pt (pw_or (pt_not (pt_val (pe_callB (callIsi (K := K)) (by rfl) T.isinstance (by decide +kernel) (pa_cons (pv 0) (pa_cons (pe_bltn (v := .ty "str") (by rfl) T.str (by decide +kernel) rfl) pa_nil))))) (pw_or1 (pt_cmpR op_gt (pe_callB callLnS (by rfl) T.len (by decide +kernel) (pa_cons (pv 0) pa_nil)) (peGlobI rfl T.mLONGEST_NAME) (nomark _))))) (pss_one (ps_ret (pe_bl))) (pss_nil))
      (pss_one (ps_ret (pe_and (pe_m0 PySem.F.slot_str_isascii PySem.F.type_str_isascii mrAscii (pv 0)) (pe_and (pe_m0 PySem.F.slot_str_isalpha PySem.F.type_str_isalpha mrAlpha (pv 0)) (pe_one (pe_m0 PySem.F.slot_str_islower PySem.F.type_str_islower mrLower (pv 0))))))), ?_⟩
    walk_at "go"
    refine c_isi (r := true) (ty_str z) (by decide +kernel) ?_
    walk_at "go"
    have h1 := hz.lo
    have h8 := hz.hi
    refine c_lnS (by omega) ?_
    walk_at "go"
    refine c_rMB hz.ascii ?_
    walk_at "go"
    refine c_rMB hz.alpha ?_
    walk_at "go"
    refine c_rMB hz.lower ?_
    exact q H (Same.refl _)
/-- an amount: None for all, or an int from 1 on -/
def AmOf : V → Option Int → Prop
  | .non, none => True
  | .int n, some m => n = m ∧ 1 ≤ m
  | _, _ => False
theorem AmOf.cases {x : V} {am : Option Int} (h : AmOf x am) : (x = .non ∧ am = none) ∨ ∃ n, x = .int n ∧ am = some n ∧ 1 ≤ n := by
  cases x <;> cases am <;> simp [AmOf] at h
  · exact .inl ⟨rfl, rfl⟩
  · obtain ⟨rfl, h⟩ := h
    exact .inr ⟨_, rfl, rfl, h⟩
def spIsAm : Sp := fun vs H Q _ => ∃ x am, vs = [x] ∧ AmOf x am ∧ Q (.bl true) H
theorem ok_is_amount (T : TX K mg) : FnOk P w K mg base CX0 2 T.f_is_amount T.fd_is_amount pIsAm spIsAm := by
  refine T.d_is_amount.F.ok scIsAm (fun vs H Q E h => ?_) (fun cdv A outer s H vs Q E hr h => ?_)
  · obtain ⟨x, am, rfl, _⟩ := h
    rfl
  · obtain ⟨x, am, rfl, ha, q⟩ := h
    refine ⟨_, pss_one (ps_ret (pe_or (pe_cmpR op_isN (pv 0) (pe_non) (nomark _)) (pe_one (pe_and (pe_callB (callIsi (K := K)) (by rfl) T.isinstance (by decide +kernel) (pa_cons (pv 0) (pa_cons (pe_bltn (v := .ty "int") (by rfl) T.int (by decide +kernel) rfl) pa_nil))) (pe_and (pe_not (pe_callB (callIsi (K := K)) (by rfl) T.isinstance (by decide +kernel) (pa_cons (pv 0) (pa_cons (pe_bltn (v := .ty "bool") (by rfl) T.bool (by decide +kernel) rfl) pa_nil)))) (pe_one (pe_cmpR op_ge (pv 0) (pe_int) (nomark _)))))))), ?_⟩
    walk_at "go"
    refine ⟨rfl, ?_⟩
    rcases ha.cases with ⟨rfl, rfl⟩ | ⟨n, rfl, rfl, hn⟩
    · walk_at "go"
      exact q
    · walk_at "go"
      refine c_isi (r := true) (ty_int n) (by decide +kernel) ?_
      walk_at "go"
      refine c_isi (r := false) (ty_int n) (by decide +kernel) ?_
      walk_at "go"
      rw [decide_eq_true hn]
      exact q
/-! ### checks that pass -/
def spChName : Sp := fun vs H Q _ => ∃ z : Str, vs = [.str z] ∧ IsName z ∧ ∀ H', Same H H' → Q .non H'
theorem ok_check_name (T : TX K mg) : FnOk P w K mg base CX0 2 T.f_check_name T.fd_check_name pChName spChName := by
  have G_is_name := ok_is_name (P := P) (w := w) (base := base) T
  refine T.d_check_name.F.ok scChName (fun vs H Q E h => ?_) (fun cdv A outer s H vs Q E hr h => ?_)
  · obtain ⟨z, rfl, _⟩ := h
    rfl
  · obtain ⟨z, rfl, hz, q⟩ := h
    refine ⟨_, pss_one (ps_if (pt_not (pt_val (pcall T.d_is_name G_is_name (hr.mono (by decide)) (by rfl) pass0 (pa_cons (pv 0) pa_nil)))) (pss_one (ps_never)) (pss_nil)), ?_⟩
    walk_at "go"
    refine ⟨z, rfl, hz, fun H1 s1 => ?_⟩
    walk_at "go"
    exact q H1 s1
def spChAm : Sp := fun vs H Q _ => ∃ x am, vs = [x] ∧ AmOf x am ∧ Q .non H
theorem ok_check_amount (T : TX K mg) : FnOk P w K mg base CX0 3 T.f_check_amount T.fd_check_amount pChAm spChAm := by
  have G_is_amount := ok_is_amount (P := P) (w := w) (base := base) T
  refine T.d_check_amount.F.ok scChAm (fun vs H Q E h => ?_) (fun cdv A outer s H vs Q E hr h => ?_)
  · obtain ⟨x, am, rfl, _⟩ := h
    rfl
  · obtain ⟨x, am, rfl, ha, q⟩ := h
    refine ⟨_, pss_one (ps_if (pt_not (pt_val (pcall T.d_is_amount G_is_amount (hr.mono (by decide)) (by rfl) pass0 (pa_cons (pv 0) pa_nil)))) (pss_one (ps_never)) (pss_nil)), ?_⟩
    walk_at "go"
    refine ⟨x, am, rfl, ha, ?_⟩
    walk_at "go"
    exact q
def spChNames (K : PySem.W.Frag) : Sp := fun vs H Q _ => ∃ (a : Addr) (ns : List Str), vs = [.ref a] ∧ SqT K H a (ns.map V.str) ∧ (∀ z ∈ ns, IsName z) ∧ ∀ H', Same H H' → Q .non H'
theorem ok_check_names (T : TX K mg) : FnOk P w K mg base CX0 2 T.f_check_names T.fd_check_names pChNames (spChNames K) := by
  refine T.d_check_names.F.ok scChNames (fun vs H Q E h => ?_) (fun cdv A outer s H vs Q E hr h => ?_)
  · obtain ⟨a, ns, rfl, _⟩ := h
    rfl
  · obtain ⟨a, ns, rfl, hT, hn, q⟩ := h
    refine ⟨_, pss_cons (ps_if (pt_not (pt_val (pe_callB (callIsi (K := K)) (by rfl) T.isinstance (by decide +kernel) (pa_cons (pv 0) (pa_cons (pe_bltn (v := .ty "tuple") (by rfl) T.tuple (by decide +kernel) rfl) pa_nil))))) (pss_one (ps_never)) (pss_nil))
      (pss_one (ps_for PassesOwn.never rfl (pi_enumT (by rfl) T.enumerate (pa_cons (pv 0) pa_nil)) (pgTup (K := K) (n := 2) (by rfl) (pgs_cons (pg_name (i := 1) scChNames.nd rfl (.inl rfl)) (pgs_cons (pg_name (i := 2) scChNames.nd rfl (.inl rfl)) pgs_nil)))
        (pss_one (ps_if (PW.pt (pw_or (pt_not (pt_val (pe_callB (callIsi (K := K)) (by rfl) T.isinstance (by decide +kernel) (pa_cons (pv 2) (pa_cons (pe_bltn (v := .ty "str") (by rfl) T.str (by decide +kernel) rfl) pa_nil))))) (pw_or (pt_cmpR op_gt (pe_callB callLnS (by rfl) T.len (by decide +kernel) (pa_cons (pv 2) pa_nil)) (peGlobI rfl T.mLONGEST_NAME) (nomark _)) (pw_or1 (pt_not (PW.pt (pw_and (pt_val (pe_m0 PySem.F.slot_str_isascii PySem.F.type_str_isascii mrAscii (pv 2))) (pw_and (pt_val (pe_m0 PySem.F.slot_str_isalpha PySem.F.type_str_isalpha mrAlpha (pv 2))) (pw_and1 (pt_val (pe_m0 PySem.F.slot_str_islower PySem.F.type_str_islower mrLower (pv 2)))))))))))) (pss_one (ps_never)) (pss_nil))))), ?_⟩
    walk_at "go"
    refine c_isi (r := true) (ty_tup hT) (by decide +kernel) ?_
    walk_at "go"
    refine ⟨a, _, rfl, hT, ?_⟩
    refine for_enumT (xs := ns.map V.str) (fun i σ H' => Same H H' ∧ ∃ x y, σ = [some (.ref a), x, y]) ⟨Same.refl _, _, _, rfl⟩ (fun i σ H' _ h => same_seqT h.1 hT) (fun i x t σ H' hx h nt => ?_) (fun σ H' h => ?_)
    · obtain ⟨s1, y1, y2, rfl⟩ := h
      obtain ⟨z, rfl, hz⟩ := str_at hx
      have nz := hn z hz
      have h1 := nz.lo
      have h8 := nz.hi
      refine c_gtup (.inl (.inl upd_same)) rfl ?_
      walk_at "go"
      refine c_isi (r := true) (ty_str z) (by decide +kernel) ?_
      walk_at "go"
      refine c_lnS (by omega) ?_
      walk_at "go"
      refine c_rMB nz.ascii ?_
      walk_at "go"
      refine c_rMB nz.alpha ?_
      walk_at "go"
      refine c_rMB nz.lower ?_
      walk_at "go"
      exact ⟨s1.trans (same_new nt), _, _, rfl⟩
    · exact q H' h.1
def mvd (am : Option Int) (n : Nat) : Nat := match am with
  | none => n
  | some m => min m.toNat n
def spMoved : Sp := fun vs H Q _ => ∃ (x : V) (am : Option Int) (n : Nat), vs = [x, .int (n : Int)] ∧ AmOf x am ∧ Q (.int (mvd am n : Int)) H
theorem ok_moved (T : TX K mg) : FnOk P w K mg base CX0 1 T.f_number_moved T.fd_number_moved pMoved spMoved := by
  refine T.d_number_moved.F.ok scMoved (fun vs H Q E h => ?_) (fun cdv A outer s H vs Q E hr h => ?_)
  · obtain ⟨x, am, n, rfl, _⟩ := h
    rfl
  · obtain ⟨x, am, n, rfl, ha, q⟩ := h
    refine ⟨_, pss_one (ps_ret (pe_ifExp (pt_cmpR op_isN (pv 0) (pe_non) (nomark _)) (pv 1) (pe_callB (callMin2 rfl) (by rfl) T.min (by decide +kernel) (pa_cons (pv 0) (pa_cons (pv 1) pa_nil))))), ?_⟩
    walk_at "go"
    refine ⟨rfl, ?_⟩
    rcases ha.cases with ⟨rfl, rfl⟩ | ⟨m, rfl, rfl, hn⟩
    · walk_at "go"
      exact q
    · walk_at "go"
      refine c_min2 ?_
      have e : min m (n : Int) = ((mvd (some m) n : Nat) : Int) := by
        show min m (n : Int) = ((min m.toNat n : Nat) : Int)
        omega
      rw [e]
      exact q
end
end Und
namespace Und
open PySem PySem.Spec PyProof.Rows L2
local macro_rules | `(tactic| walk_at "side") => `(tactic| first | decide | omega | exact ⟨by omega, by omega⟩ | (show (0 : Int) < _; omega) | (exact Or.inl ⟨by omega, by omega⟩) | (exact Or.inr ⟨by omega, by omega⟩) | (exact sz (by simp)) | (exact szl (by simp)))
local macro_rules | `(tactic| walk_at "u") => `(tactic| first
  | with_reducible refine c_seq ?_ | with_reducible refine c_next ?_ | with_reducible refine c_yes ?_ | with_reducible refine c_asg ?_ | with_reducible refine c_asg2 ?_ | with_reducible refine c_par ?_ | with_reducible refine c_two ?_ | with_reducible refine c_g ?_ | with_reducible refine c_gsub ?_ | with_reducible refine c_gcons ?_ | with_reducible refine c_gnil ?_ | with_reducible refine c_ret ?_ | with_reducible refine c_drop ?_
  | ((with_reducible refine c_var (v := ?v) ?h ?_); (case h => rfl)) | with_reducible refine c_c ?_ | with_reducible refine c_op ?_ | with_reducible refine c_un ?_ | with_reducible refine c_I0 ?_
  | ((with_reducible refine c_I ?h ?_); (case h => walk_at "side"))
  | ((with_reducible refine c_eq ?h ?_); (case h => rfl)) | ((with_reducible refine c_neq ?h ?_); (case h => rfl)) | with_reducible refine c_test ?_ | with_reducible refine c_B ?_ | with_reducible refine c_bl ?_ | with_reducible refine c_int ?_ | with_reducible refine c_ifs ?_ | with_reducible refine c_ife ?_
  | with_reducible refine c_andV ?_ | with_reducible refine c_orV ?_ | with_reducible refine c_notV ?_ | with_reducible refine c_and ?_ | with_reducible refine c_or ?_ | with_reducible refine c_not ?_
  | with_reducible refine c_call ?_ | with_reducible refine c_cb ?_ | with_reducible refine c_nil ?_ | with_reducible refine c_cons ?_
  | with_reducible refine c_tup ?_ | with_reducible refine c_lst ?_ | with_reducible refine c_sl ?_ | with_reducible refine c_nop ?_ | with_reducible refine c_part ?_ | with_reducible refine c_fld ?_
  | with_reducible refine c_for ?_ | with_reducible refine c_ilist ?_ | with_reducible refine c_itup ?_ | with_reducible refine c_irng1 ?_ | with_reducible refine c_lc ?_
  | with_reducible refine c_m1 ?_ | with_reducible refine c_isS ?_ | with_reducible refine c_chain ?_ | with_reducible refine c_str ?_ | with_reducible refine c_make ?_ | with_reducible refine c_meth ?_ | with_reducible refine c_prop ?_ | with_reducible refine c_sfld ?_ | with_reducible refine c_ienumT ?_ | with_reducible refine iteT ?_ | with_reducible refine iteF ?_ | with_reducible refine iteNT ?_ | with_reducible refine iteNF ?_
  | ((with_reducible refine iteDT ?h ?_); (case h => first | rfl | omega)) | ((with_reducible refine iteDF ?h ?_); (case h => first | omega | (intro z; cases z; done))) | ((with_reducible refine iteNDT ?h ?_); (case h => first | rfl | omega)) | ((with_reducible refine iteNDF ?h ?_); (case h => first | omega | (intro z; cases z; done))))
local macro_rules | `(tactic| walk_at "go") => `(tactic| repeat (walk_at "u"))
/-! ### a history -/
def flds (tp tf : Addr) : List (Str × V) := [("past", V.ref tp), ("future", V.ref tf)]
theorem k_pf : ¬ (("past" : Str) = "future") := by decide +kernel
theorem flds_put (tp tf : Addr) : putF "future" (.ref tf) (putF "past" (.ref tp) []) = flds tp tf := by
  show (if ("past" : Str) = "future" then _ else (("past" : Str), V.ref tp) :: putF "future" (V.ref tf) []) = flds tp tf
  rw [if_neg k_pf]
  all_goals rfl
theorem flds_past (tp tf : Addr) : (flds tp tf).lookup ("past" : Str) = some (.ref tp) := by
  rw [← flds_put, lookup_putF, if_neg k_pf, lookup_putF, if_pos rfl]
theorem flds_future (tp tf : Addr) : (flds tp tf).lookup ("future" : Str) = some (.ref tf) := by
  rw [← flds_put, lookup_putF, if_pos rfl]
theorem flds_no (tp tf : Addr) {m : Str} (h1 : ¬ m = "past") (h2 : ¬ m = "future") : (flds tp tf).lookup m = none := by
  rw [← flds_put, lookup_putF, if_neg h2, lookup_putF, if_neg h1]
  all_goals rfl
/-- a history of these names stands at a -/
structure HistAt (K : PySem.W.Frag) (C : Addr) (H : Hp) (a : Addr) (ps fs : List Str) : Prop where
  ob : ∃ dx tp tf, H a = some (.ins C dx (flds tp tf)) ∧ SqT K H tp (ps.map V.str) ∧ SqT K H tf (fs.map V.str)
  okp : ∀ z ∈ ps, IsName z
  okf : ∀ z ∈ fs, IsName z
  len : ps.length + fs.length ≤ 4000
theorem HistAt.mono {K : PySem.W.Frag} {C : Addr} {H H' : Hp} {a : Addr} {ps fs : List Str} (h : HistAt K C H a ps fs) (s : Same H H') : HistAt K C H' a ps fs := by
  obtain ⟨⟨dx, tp, tf, e, h1, h2⟩, a1, a2, l⟩ := h
  exact ⟨⟨dx, tp, tf, s _ _ e, same_seqT s h1, same_seqT s h2⟩, a1, a2, l⟩
/-! ### what the commands make -/
def hUndo (am : Option Int) (h : List Str × List Str) : List Str × List Str := (h.1.take (h.1.length - mvd am h.1.length), h.1.drop (h.1.length - mvd am h.1.length) ++ h.2)
def hRedo (am : Option Int) (h : List Str × List Str) : List Str × List Str := (h.1 ++ h.2.take (mvd am h.2.length), h.2.drop (mvd am h.2.length))
theorem cut_to (xs : List V) (k : Nat) (h : k ≤ xs.length) : cutV xs none (some (k : Int)) = xs.take k := by
  unfold cutV
  rw [HT.sIx_none, HT.sIx_nat, List.drop_zero, Nat.sub_zero, Nat.min_eq_left h]
theorem cut_from (xs : List V) (k : Nat) (h : k ≤ xs.length) : cutV xs (some (k : Int)) none = xs.drop k := by
  unfold cutV
  rw [HT.sIx_none, HT.sIx_nat, Nat.min_eq_left h]
  exact List.take_of_length_le (by rw [List.length_drop]; omega)
section
variable {P : Program} {w : World} {K : PySem.W.Frag} {mg : Str → Option Value} {base : Heap}
def spInit (K : PySem.W.Frag) (C : Addr) : Sp := fun vs H Q _ => ∃ (x dx tp tf : Addr) (ps fs : List Str), vs = [.ref x, .ref tp, .ref tf] ∧ H x = some (.ins C dx []) ∧ SqT K H tp (ps.map V.str) ∧ SqT K H tf (fs.map V.str) ∧ (∀ z ∈ ps, IsName z) ∧ (∀ z ∈ fs, IsName z) ∧
  ∀ H', (∀ b o, b ≠ x → H b = some o → H' b = some o) → H' x = some (.ins C dx (flds tp tf)) → Q .non H'
theorem ok_init (T : TX K mg) : FnOk P w K mg base CX0 3 T.f_History_init T.fd_History_init pHInit (spInit K T.C_History) := by
  have G_check_names := ok_check_names (P := P) (w := w) (base := base) T
  refine T.F_History_init.ok scHInit (fun vs H Q E h => ?_) (fun cdv A outer s H vs Q E hr h => ?_)
  · obtain ⟨x, dx, tp, tf, ps, fs, rfl, _⟩ := h
    rfl
  · obtain ⟨x, dx, tp, tf, ps, fs, rfl, hx, h1, h2, n1, n2, q⟩ := h
    refine ⟨_, pss_cons (ps_expr (pcall T.d_check_names G_check_names (hr.mono (by decide)) (by rfl) pass0 (pa_cons (pv 1) pa_nil)))
      (pss_cons (ps_expr (pcall T.d_check_names G_check_names (hr.mono (by decide)) (by rfl) pass0 (pa_cons (pv 2) pa_nil)))
      (pss_cons (ps_fld (pv 0) (pv 1) rfl)
      (pss_one (ps_fld (pv 0) (pv 2) rfl)))), ?_⟩
    walk_at "go"
    refine ⟨tp, ps, rfl, h1, n1, fun H1 s1 => ?_⟩
    walk_at "go"
    refine ⟨tf, fs, rfl, same_seqT s1 h2, n2, fun H2 s2 => ?_⟩
    have s02 := s1.trans s2
    walk_at "go"
    refine ⟨x, T.C_History, dx, [], rfl, s02 _ _ hx, T.cl_History, T.n_History_past, by decide, ?_⟩
    walk_at "go"
    refine ⟨x, T.C_History, dx, _, rfl, upd_same, T.cl_History, T.n_History_future, by show 1 < 1000; decide, ?_⟩
    rw [flds_put]
    refine q _ (fun b o hb e => ?_) upd_same
    rw [upd_ne hb, upd_ne hb]
    exact s02 _ _ e
/-- a history is made -/
theorem c_mkH {C tp tf : Addr} {ps fs : List Str} {H : Hp} {Q : VK} {E : XK} (h1 : SqT K H tp (ps.map V.str)) (h2 : SqT K H tf (fs.map V.str)) (n1 : ∀ z ∈ ps, IsName z) (n2 : ∀ z ∈ fs, IsName z) (l : ps.length + fs.length ≤ 4000)
    (q : ∀ r H', Same H H' → HistAt K C H' r ps fs → Q (.ref r) H') {vs : List V} (ev : vs = [.ref tp, .ref tf]) : rMk C (spInit K C) E vs H Q := fun x dx nx nd ne => by
  have s1 : Same H (upd (upd H dx (.own x)) x (.ins C dx [])) := fun b o e => by
    rw [upd_ne (ne_of_none e nx), upd_ne (ne_of_none e nd)]
    exact e
  refine ⟨x, dx, tp, tf, ps, fs, by rw [ev], upd_same, same_seqT s1 h1, same_seqT s1 h2, n1, n2, fun H' k ex => ⟨rfl, ?_⟩⟩
  have s2 : Same H H' := fun b o e => k b o (ne_of_none e nx) (s1 b o e)
  exact q x H' s2 ⟨⟨dx, tp, tf, ex, same_seqT s2 h1, same_seqT s2 h2⟩, n1, n2, l⟩
theorem flds_setp (tp tf x : Addr) : putF "past" (.ref x) (flds tp tf) = flds x tf := by
  show (if ("past" : Str) = "past" then _ else _) = flds x tf
  rw [if_pos rfl]
  all_goals rfl
theorem flds_setf (tp tf x : Addr) : putF "future" (.ref x) (flds tp tf) = flds tp x := by
  show (if ("past" : Str) = "future" then _ else (("past" : Str), V.ref tp) :: (if ("future" : Str) = "future" then _ else _)) = flds tp x
  rw [if_neg k_pf, if_pos rfl]
  all_goals rfl
/-- a history without items is made -/
theorem c_mk0 {C e0 e1 : Addr} {H : Hp} {Q : VK} {E : XK} (h0 : ∀ H, SqT K H e0 []) (h1 : ∀ H, SqT K H e1 [])
    (q : ∀ r dx H', H r = none → Same H H' → H' r = some (.ins C dx (flds e0 e1)) → Q (.ref r) H') {vs : List V} (ev : vs = [.ref e0, .ref e1]) : rMk C (spInit K C) E vs H Q := fun x dx nx nd ne => by
  refine ⟨x, dx, e0, e1, [], [], by rw [ev], upd_same, h0 _, h1 _, (fun z hz => by cases hz), (fun z hz => by cases hz), fun H' k ex => ⟨rfl, ?_⟩⟩
  exact q x dx H' nx (fun b o e => k b o (ne_of_none e nx) (by rw [upd_ne (ne_of_none e nx), upd_ne (ne_of_none e nd)]; exact e)) ex
def spHWith (K : PySem.W.Frag) (C : Addr) : Sp := fun vs H Q _ => ∃ (tp tf : Addr) (ps fs : List Str), vs = [.ref tp, .ref tf] ∧ SqT K H tp (ps.map V.str) ∧ SqT K H tf (fs.map V.str) ∧ (∀ z ∈ ps, IsName z) ∧ (∀ z ∈ fs, IsName z) ∧ ps.length + fs.length ≤ 4000 ∧ ∀ r H', Same H H' → HistAt K C H' r ps fs → Q (.ref r) H'
theorem ok_hwith (T : TX K mg) : FnOk P w K mg base CX0 5 T.f_history_with T.fd_history_with pHWith (spHWith K T.C_History) := by
  have G_History_init := ok_init (P := P) (w := w) (base := base) T
  refine T.d_history_with.F.ok scHWith (fun vs H Q E h => ?_) (fun cdv A outer s H vs Q E hr h => ?_)
  · obtain ⟨tp, tf, ps, fs, rfl, _⟩ := h
    rfl
  · obtain ⟨tp, tf, ps, fs, rfl, h1, h2, n1, n2, l, q⟩ := h
    refine ⟨_, pss_cons (ps_set (i := 2) scHWith.nd rfl (.inl rfl) (pe_make0 T.mk_History G_History_init (hr.mono (by decide)) (by rfl) T.m_History T.b0_History_init T.v0_History_init pass0))
      (pss_cons (ps_fld (pv 2) (pv 0) rfl)
      (pss_cons (ps_fld (pv 2) (pv 1) rfl)
      (pss_one (ps_ret (pv 2))))), ?_⟩
    walk_at "go"
    refine c_mk0 T.t0_History_init T.t1_History_init (fun r dx H1 nr s1 e1 => ?_) rfl
    walk_at "go"
    refine ⟨r, T.C_History, dx, _, rfl, e1, T.cl_History, T.n_History_past, by show 2 < 1000; decide, ?_⟩
    rw [flds_setp]
    walk_at "go"
    refine ⟨r, T.C_History, dx, _, rfl, upd_same, T.cl_History, T.n_History_future, by show 2 < 1000; decide, ?_⟩
    rw [flds_setf]
    have s2 : Same H (upd (upd H1 r (.ins T.C_History dx (flds tp T.e1_History_init))) r (.ins T.C_History dx (flds tp tf))) := fun b o e => by
      rw [upd_ne (ne_of_none e nr), upd_ne (ne_of_none e nr)]
      exact s1 _ _ e
    walk_at "go"
    exact q r _ s2 ⟨⟨dx, tp, tf, upd_same, same_seqT s2 h1, same_seqT s2 h2⟩, n1, n2, l⟩
def spDo (K : PySem.W.Frag) (C : Addr) : Sp := fun vs H Q _ => ∃ (a : Addr) (z : Str) (ps fs : List Str), vs = [.ref a, .str z] ∧ HistAt K C H a ps fs ∧ IsName z ∧ ps.length ≤ 3000 ∧ ∀ r H', Same H H' → HistAt K C H' r (ps ++ [z]) [] → Q (.ref r) H'
theorem ok_do (T : TX K mg) : FnOk P w K mg base CX0 6 T.f_History_do T.fd_History_do pHDo (spDo K T.C_History) := by
  have G_check_name := ok_check_name (P := P) (w := w) (base := base) T
  have G_history_with := ok_hwith (P := P) (w := w) (base := base) T
  refine T.F_History_do.ok scHDo (fun vs H Q E h => ?_) (fun cdv A outer s H vs Q E hr h => ?_)
  · obtain ⟨a, z, ps, fs, rfl, _⟩ := h
    rfl
  · obtain ⟨a, z, ps, fs, rfl, hA, hz, hl, q⟩ := h
    refine ⟨_, pss_cons (ps_expr (pcall T.d_check_name G_check_name (hr.mono (by decide)) (by rfl) pass0 (pa_cons (pv 1) pa_nil)))
      (pss_one (ps_ret (pcall T.d_history_with G_history_with (hr.mono (by decide)) (by rfl) pass0 (pa_cons (pe_op (opCatT (K := K)) (peFld (K := K) (pv 0) rfl) (pe_tup (pa_cons (pv 1) pa_nil))) (pa_cons (pe_tup (pa_nil)) pa_nil))))), ?_⟩
    walk_at "go"
    refine ⟨z, rfl, hz, fun H1 s1 => ?_⟩
    obtain ⟨⟨dx, tp, tf, e, h1, h2⟩, n1, n2, l⟩ := hA.mono s1
    walk_at "go"
    refine ⟨a, _, dx, _, _, rfl, e, T.cl_History, T.n_History_past, flds_past _ _, ?_⟩
    walk_at "go"
    refine c_newT (by simp) fun u H2 nu s2 e2 => ?_
    refine c_catT (ys := [z].map V.str) (same_seqT s2 h1) (.inl (.inl e2)) (by rw [List.length_map]; simp; omega) fun t H3 s3 ht => ?_
    rw [← List.map_append] at ht
    walk_at "go"
    refine c_newT (by simp) fun u2 H4 nu4 s4 e4 => ?_
    walk_at "go"
    refine ⟨t, u2, ps ++ [z], [], rfl, same_seqT s4 ht, .inl (.inl e4), (fun y hy => ?_), (fun y hy => by cases hy), (by simp; omega), fun r H5 s5 hR => q r H5 ((((s1.trans s2).trans s3).trans s4).trans s5) hR⟩
    rcases List.mem_append.mp hy with hy | hy
    · exact n1 y hy
    · have : y = z := by simpa using hy
      rw [this]
      exact hz
def spUndo (K : PySem.W.Frag) (C : Addr) : Sp := fun vs H Q _ => ∃ (a : Addr) (x : V) (am : Option Int) (ps fs : List Str), vs = [.ref a, x] ∧ AmOf x am ∧ HistAt K C H a ps fs ∧ ∀ r H', Same H H' → HistAt K C H' r (hUndo am (ps, fs)).1 (hUndo am (ps, fs)).2 → Q (.ref r) H'
theorem mvd_le (am : Option Int) (n : Nat) : mvd am n ≤ n := by
  unfold mvd
  split
  · exact Nat.le_refl _
  · exact Nat.min_le_right _ _
theorem ok_undo (T : TX K mg) : FnOk P w K mg base CX0 6 T.f_History_undo T.fd_History_undo pHUndo (spUndo K T.C_History) := by
  have G_check_amount := ok_check_amount (P := P) (w := w) (base := base) T
  have G_number_moved := ok_moved (P := P) (w := w) (base := base) T
  have G_history_with := ok_hwith (P := P) (w := w) (base := base) T
  refine T.F_History_undo.ok scHUndo (fun vs H Q E h => ?_) (fun cdv A outer s H vs Q E hr h => ?_)
  · obtain ⟨a, x, am, ps, fs, rfl, _⟩ := h
    rfl
  · obtain ⟨a, x, am, ps, fs, rfl, ha, ⟨⟨dx, tp, tf, e, h1, h2⟩, n1, n2, l⟩, q⟩ := h
    refine ⟨_, pss_cons (ps_expr (pcall T.d_check_amount G_check_amount (hr.mono (by decide)) (by rfl) pass0 (pa_cons (pv 1) pa_nil)))
      (pss_cons (ps_set (i := 2) scHUndo.nd rfl (.inl rfl) (pe_op op_sub (pe_callB (callLn (K := K)) (by rfl) T.len (by decide +kernel) (pa_cons (peFld (K := K) (pv 0) rfl) pa_nil)) (pcall T.d_number_moved G_number_moved (hr.mono (by decide)) (by rfl) pass0 (pa_cons (pv 1) (pa_cons (pe_callB (callLn (K := K)) (by rfl) T.len (by decide +kernel) (pa_cons (peFld (K := K) (pv 0) rfl) pa_nil)) pa_nil)))))
      (pss_one (ps_ret (pcall T.d_history_with G_history_with (hr.mono (by decide)) (by rfl) pass0 (pa_cons (pe_slice (slT (K := K)) (peFld (K := K) (pv 0) rfl) po_none (po_some (pv 2))) (pa_cons (pe_op (opCatT (K := K)) (pe_slice (slT (K := K)) (peFld (K := K) (pv 0) rfl) (po_some (pv 2)) po_none) (peFld (K := K) (pv 0) rfl)) pa_nil)))))), ?_⟩
    walk_at "go"
    refine ⟨x, am, rfl, ha, ?_⟩
    walk_at "go"
    refine ⟨a, _, dx, _, _, rfl, e, T.cl_History, T.n_History_past, flds_past _ _, ?_⟩
    walk_at "go"
    refine c_lnT h1 ?_
    walk_at "go"
    refine ⟨a, _, dx, _, _, rfl, e, T.cl_History, T.n_History_past, flds_past _ _, ?_⟩
    walk_at "go"
    refine c_lnT h1 ?_
    walk_at "go"
    rw [List.length_map]
    refine ⟨x, am, ps.length, rfl, ha, ?_⟩
    have lm := mvd_le am ps.length
    obtain ⟨k, ek, lk⟩ : ∃ k : Nat, ps.length - mvd am ps.length = k ∧ k ≤ ps.length := ⟨_, rfl, Nat.sub_le _ _⟩
    have ez : (ps.length : Int) - (mvd am ps.length : Int) = (k : Int) := by omega
    walk_at "go"
    rw [ez]
    walk_at "go"
    refine ⟨a, _, dx, _, _, rfl, e, T.cl_History, T.n_History_past, flds_past _ _, ?_⟩
    walk_at "go"
    refine c_slT h1 fun t1 H1 s1 ht1 => ?_
    rw [cut_to _ _ (by rw [List.length_map]; exact lk), ← List.map_take] at ht1
    walk_at "go"
    refine ⟨a, _, dx, _, _, rfl, s1 _ _ e, T.cl_History, T.n_History_past, flds_past _ _, ?_⟩
    walk_at "go"
    refine c_slT (same_seqT s1 h1) fun t2 H2 s2 ht2 => ?_
    rw [cut_from _ _ (by rw [List.length_map]; exact lk), ← List.map_drop] at ht2
    have s02 := s1.trans s2
    walk_at "go"
    refine ⟨a, _, dx, _, _, rfl, s02 _ _ e, T.cl_History, T.n_History_future, flds_future _ _, ?_⟩
    refine c_catT ht2 (same_seqT s02 h2) (by rw [List.length_map, List.length_map, List.length_drop]; omega) fun t3 H3 s3 ht3 => ?_
    rw [← List.map_append] at ht3
    walk_at "go"
    refine ⟨t1, t3, _, _, rfl, same_seqT (s2.trans s3) ht1, ht3, (fun y hy => n1 y (List.mem_of_mem_take hy)), (fun y hy => ?_), (by rw [List.length_take, List.length_append, List.length_drop]; omega), (fun r H4 s4 hR => q r H4 ((s02.trans s3).trans s4) ?_)⟩
    · rcases List.mem_append.mp hy with hy | hy
      · exact n1 y (List.mem_of_mem_drop hy)
      · exact n2 y hy
    · rw [← ek] at hR
      exact hR
def spRedo (K : PySem.W.Frag) (C : Addr) : Sp := fun vs H Q _ => ∃ (a : Addr) (x : V) (am : Option Int) (ps fs : List Str), vs = [.ref a, x] ∧ AmOf x am ∧ HistAt K C H a ps fs ∧ ∀ r H', Same H H' → HistAt K C H' r (hRedo am (ps, fs)).1 (hRedo am (ps, fs)).2 → Q (.ref r) H'
theorem ok_redo (T : TX K mg) : FnOk P w K mg base CX0 6 T.f_History_redo T.fd_History_redo pHRedo (spRedo K T.C_History) := by
  have G_check_amount := ok_check_amount (P := P) (w := w) (base := base) T
  have G_number_moved := ok_moved (P := P) (w := w) (base := base) T
  have G_history_with := ok_hwith (P := P) (w := w) (base := base) T
  refine T.F_History_redo.ok scHRedo (fun vs H Q E h => ?_) (fun cdv A outer s H vs Q E hr h => ?_)
  · obtain ⟨a, x, am, ps, fs, rfl, _⟩ := h
    rfl
  · obtain ⟨a, x, am, ps, fs, rfl, ha, ⟨⟨dx, tp, tf, e, h1, h2⟩, n1, n2, l⟩, q⟩ := h
    refine ⟨_, pss_cons (ps_expr (pcall T.d_check_amount G_check_amount (hr.mono (by decide)) (by rfl) pass0 (pa_cons (pv 1) pa_nil)))
      (pss_cons (ps_set (i := 2) scHRedo.nd rfl (.inl rfl) (pcall T.d_number_moved G_number_moved (hr.mono (by decide)) (by rfl) pass0 (pa_cons (pv 1) (pa_cons (pe_callB (callLn (K := K)) (by rfl) T.len (by decide +kernel) (pa_cons (peFld (K := K) (pv 0) rfl) pa_nil)) pa_nil))))
      (pss_one (ps_ret (pcall T.d_history_with G_history_with (hr.mono (by decide)) (by rfl) pass0 (pa_cons (pe_op (opCatT (K := K)) (peFld (K := K) (pv 0) rfl) (pe_slice (slT (K := K)) (peFld (K := K) (pv 0) rfl) po_none (po_some (pv 2)))) (pa_cons (pe_slice (slT (K := K)) (peFld (K := K) (pv 0) rfl) (po_some (pv 2)) po_none) pa_nil)))))), ?_⟩
    walk_at "go"
    refine ⟨x, am, rfl, ha, ?_⟩
    walk_at "go"
    refine ⟨a, _, dx, _, _, rfl, e, T.cl_History, T.n_History_future, flds_future _ _, ?_⟩
    walk_at "go"
    refine c_lnT h2 ?_
    walk_at "go"
    rw [List.length_map]
    refine ⟨x, am, fs.length, rfl, ha, ?_⟩
    have lm := mvd_le am fs.length
    walk_at "go"
    refine ⟨a, _, dx, _, _, rfl, e, T.cl_History, T.n_History_past, flds_past _ _, ?_⟩
    walk_at "go"
    refine ⟨a, _, dx, _, _, rfl, e, T.cl_History, T.n_History_future, flds_future _ _, ?_⟩
    walk_at "go"
    refine c_slT h2 fun t1 H1 s1 ht1 => ?_
    rw [cut_to _ _ (by rw [List.length_map]; exact lm), ← List.map_take] at ht1
    refine c_catT (same_seqT s1 h1) ht1 (by rw [List.length_map, List.length_map, List.length_take]; omega) fun t2 H2 s2 ht2 => ?_
    rw [← List.map_append] at ht2
    have s02 := s1.trans s2
    walk_at "go"
    refine ⟨a, _, dx, _, _, rfl, s02 _ _ e, T.cl_History, T.n_History_future, flds_future _ _, ?_⟩
    walk_at "go"
    refine c_slT (same_seqT s02 h2) fun t3 H3 s3 ht3 => ?_
    rw [cut_from _ _ (by rw [List.length_map]; exact lm), ← List.map_drop] at ht3
    walk_at "go"
    refine ⟨t2, t3, _, _, rfl, same_seqT s3 ht2, ht3, (fun y hy => ?_), (fun y hy => n2 y (List.mem_of_mem_drop hy)), (by rw [List.length_append, List.length_take, List.length_drop]; omega), (fun r H4 s4 hR => q r H4 ((s02.trans s3).trans s4) hR)⟩
    rcases List.mem_append.mp hy with hy | hy
    · exact n1 y hy
    · exact n2 y (List.mem_of_mem_take hy)
end
end Und
namespace Und
open PySem PySem.Spec PyProof.Rows L2
local macro_rules | `(tactic| walk_at "side") => `(tactic| first | decide | omega | exact ⟨by omega, by omega⟩ | (show (0 : Int) < _; omega) | (exact Or.inl ⟨by omega, by omega⟩) | (exact Or.inr ⟨by omega, by omega⟩) | (exact sz (by simp)) | (exact szl (by simp)))
local macro_rules | `(tactic| walk_at "u") => `(tactic| first
  | with_reducible refine c_seq ?_ | with_reducible refine c_next ?_ | with_reducible refine c_yes ?_ | with_reducible refine c_asg ?_ | with_reducible refine c_asg2 ?_ | with_reducible refine c_par ?_ | with_reducible refine c_two ?_ | with_reducible refine c_g ?_ | with_reducible refine c_gsub ?_ | with_reducible refine c_gcons ?_ | with_reducible refine c_gnil ?_ | with_reducible refine c_ret ?_ | with_reducible refine c_drop ?_
  | ((with_reducible refine c_var (v := ?v) ?h ?_); (case h => rfl)) | with_reducible refine c_c ?_ | with_reducible refine c_op ?_ | with_reducible refine c_un ?_ | with_reducible refine c_I0 ?_
  | ((with_reducible refine c_I ?h ?_); (case h => walk_at "side"))
  | ((with_reducible refine c_eq ?h ?_); (case h => rfl)) | ((with_reducible refine c_neq ?h ?_); (case h => rfl)) | with_reducible refine c_test ?_ | with_reducible refine c_B ?_ | with_reducible refine c_bl ?_ | with_reducible refine c_int ?_ | with_reducible refine c_ifs ?_ | with_reducible refine c_ife ?_
  | with_reducible refine c_andV ?_ | with_reducible refine c_orV ?_ | with_reducible refine c_notV ?_ | with_reducible refine c_and ?_ | with_reducible refine c_or ?_ | with_reducible refine c_not ?_
  | with_reducible refine c_call ?_ | with_reducible refine c_cb ?_ | with_reducible refine c_nil ?_ | with_reducible refine c_cons ?_
  | with_reducible refine c_tup ?_ | with_reducible refine c_lst ?_ | with_reducible refine c_sl ?_ | with_reducible refine c_nop ?_ | with_reducible refine c_part ?_ | with_reducible refine c_fld ?_
  | with_reducible refine c_for ?_ | with_reducible refine c_ilist ?_ | with_reducible refine c_itup ?_ | with_reducible refine c_irng1 ?_ | with_reducible refine c_lc ?_
  | with_reducible refine c_m1 ?_ | with_reducible refine c_isS ?_ | with_reducible refine c_chain ?_ | with_reducible refine c_str ?_ | with_reducible refine c_make ?_ | with_reducible refine c_meth ?_ | with_reducible refine c_prop ?_ | with_reducible refine c_sfld ?_ | with_reducible refine c_ienumT ?_ | with_reducible refine iteT ?_ | with_reducible refine iteF ?_ | with_reducible refine iteNT ?_ | with_reducible refine iteNF ?_
  | ((with_reducible refine iteDT ?h ?_); (case h => first | rfl | omega)) | ((with_reducible refine iteDF ?h ?_); (case h => first | omega | (intro z; cases z; done))) | ((with_reducible refine iteNDT ?h ?_); (case h => first | rfl | omega)) | ((with_reducible refine iteNDF ?h ?_); (case h => first | omega | (intro z; cases z; done))))
local macro_rules | `(tactic| walk_at "go") => `(tactic| repeat (walk_at "u"))
theorem noPy {b m : Int} (h0 : 0 ≤ m) (h : m < 10000000000000000000000000000000000000000000000000000000000000000000000000000000000000000000000000000) : Builtin.divisionGoesByPylong b m = false := by
  have h1 : m.natAbs < 2 ^ 400 := Nat.lt_trans (show m.natAbs < 10000000000000000000000000000000000000000000000000000000000000000000000000000000000000000000000000000 by omega) (by decide)
  exact PyProof.noPylong_of_log2 (Nat.lt_trans (PySem.Flt.log2_lt_of (by decide) h1) (by decide))
section
variable {P : Program} {w : World} {K : PySem.W.Frag} {mg : Str → Option Value} {base : Heap}
/-- some int comes of the script; nothing is changed -/
def spCell (K : PySem.W.Frag) : Sp := fun vs H Q _ => ∃ (a : Addr) (ns : List Int) (k : Int), vs = [.ref a, .int k] ∧ SqL K H a (ns.map V.int) ∧ 0 ≤ k ∧ k < 1000 ∧ ∀ (z : Int) H', Same H H' → Q (.int z) H'
theorem ok_cell {f : Addr} {fd : FuncData} (D : FD K mg "_law_cell" sCell ["_law_script", "_law_k"] f fd) (mlen : mg "len" = none) : FnOk P w K mg base CX0 1 f fd ["_law_script", "_law_k"] (spCell K) := by
  refine D.F.ok scCell (fun vs H Q E h => ?_) (fun cdv A outer s H vs Q E hr h => ?_)
  · obtain ⟨a, ns, k, rfl, _⟩ := h
    rfl
  · obtain ⟨a, ns, k, rfl, hS, h0, h1, q⟩ := h
    refine ⟨_, pss_cons (ps_if (pt_cmpR op_lt (pv 1) (pe_callB call_len_seq (by rfl) mlen PySem.boot_len (pa_cons (pv 0) pa_nil)) (nomark _)) (pss_one (ps_ret (pe_ix ix_list (pv 0) (pv 1) (fun _ _ => rfl)))) pss_nil)
      (pss_cons (ps_set (i := 2) scCell.nd rfl (.inl rfl) (pe_op op_mod (pe_op op_mul pe_int (pe_op op_add (pe_op op_add (pe_op op_mul (pv 1) (pv 1)) (pe_op op_mul pe_int (pv 1))) pe_int)) pe_int))
      (pss_cons (ps_for PassesOwn.never rfl (pi_list (pe_slice sl_list (pv 0) po_none (po_some pe_int))) (pg_name (i := 3) scCell.nd rfl (.inl rfl))
        (pss_one (ps_set (i := 2) scCell.nd rfl (.inl rfl) (pe_op op_mod (pe_op op_add (pe_op op_mul (pv 2) pe_int) (pv 3)) pe_int))))
      (pss_one (ps_ret (pv 2))))), ?_⟩
    refine ⟨_, rfl, _, rfl, a, _, rfl, .inl hS, k, _, rfl, rfl, _, rfl, ite2 (fun e => ?_) (fun e => ?_)⟩
    · have e1 := of_decide_eq_true e
      rw [List.length_map] at e1
      have hk : k.toNat < ns.length := by omega
      refine ⟨_, rfl, _, rfl, a, _, k, .int ns[k.toNat], rfl, rfl, hS, ?_, q _ _ (Same.refl H)⟩
      refine at_of (j := k.toNat) (by omega) ?_
      rw [List.getElem?_map, List.getElem?_eq_getElem hk]
      rfl
    · walk_at "go"
      refine c_slL hS fun p H1 np s1 e1 => ⟨p, rfl, ⟨_, .inl (.inl e1)⟩, ?_⟩
      obtain ⟨ms, em⟩ : ∃ ms : List Int, cutV (ns.map V.int) none (some 3) = ms.map V.int := cut_ints _ _ _
      rw [em] at e1
      refine for_list (K := K) (a := p) (xs := ms.map V.int) (fun i σ H' => ∃ (z : Int) (kv : Option V), σ = [some (.ref a), some (.int k), some (.int z), kv] ∧ 0 ≤ z ∧ z < 2147483477 ∧ Same H1 H') ⟨_, none, rfl, by omega, by omega, Same.refl _⟩ (fun i σ H' _ h => ?_) (fun i x σ H' hx h => ?_) (fun σ H' h => ?_)
      · obtain ⟨z, kv, rfl, z0, z1, s2⟩ := h
        exact .inl (.inl (s2 _ _ e1))
      · obtain ⟨z, kv, rfl, z0, z1, s2⟩ := h
        obtain ⟨y, rfl⟩ := int_at hx
        walk_at "go"
        exact ⟨_, _, rfl, by omega, by omega, s2⟩
      · obtain ⟨z, kv, rfl, z0, z1, s2⟩ := h
        walk_at "go"
        exact q z H' (s1.trans s2)
/-- a new pool -/
def spPool : Sp := fun vs H Q _ => ∃ (z : Int), vs = [.int z] ∧ ∀ p H', H p = none → Same H H' → Pool H' p → Q (.ref p) H'
theorem ok_pool {f : Addr} {fd : FuncData} (D : FD K mg "_law_pool" sPool ["_law_cell_here"] f fd) (mabs : mg "abs" = none) : FnOk P w K mg base CX0 1 f fd ["_law_cell_here"] spPool := by
  refine D.F.ok scPool (fun vs H Q E h => ?_) (fun cdv A outer s H vs Q E hr h => ?_)
  · obtain ⟨a, rfl, _⟩ := h
    rfl
  · obtain ⟨z, rfl, q⟩ := h
    refine ⟨_, pss_cons (ps_set (i := 1) scPool.nd rfl (.inl rfl) (pe_ifExp (PW.pt (pw_or (pt_cmpR op_lt (pv 0) pe_int (nomark _)) (pw_or1 (pt_cmpR op_ge (pv 0) (pe_op op_pow pe_int pe_int) (nomark _)))))
        (pe_callB call_abs (by rfl) mabs (by decide +kernel) (pa_cons (pv 0) pa_nil)) pe_int))
      (pss_one (ps_ret (pe_lst (pa_cons (pe_op op_mod (pv 0) pe_int) (pa_cons (pv 1) (pa_cons pe_int pa_nil)))))), ?_⟩
    have key : ∀ d : Int, 0 ≤ d → rNewL [.int (z % 2147483477), .int d, .int 0] H Q := fun d hd => c_newL (by simp) fun p H1 np s1 e1 => q p H1 np s1 ⟨_, _, _, e1, Int.emod_nonneg _ (by decide), Int.emod_lt_of_pos _ (by decide), hd⟩
    walk_at "go"
    refine ite2 (fun e => ?_) (fun e => ?_)
    · walk_at "go"
      refine ⟨z, rfl, ?_⟩
      walk_at "go"
      refine key _ (by split <;> omega)
    · walk_at "go"
      refine ite2 (fun e => ?_) (fun e => ?_)
      · walk_at "go"
        refine ⟨z, rfl, ?_⟩
        walk_at "go"
        refine key _ (by split <;> omega)
      · walk_at "go"
        exact key 0 (by decide)
/-- a draw below m -/
def spDraw : Sp := fun vs H Q _ => ∃ (p : Addr) (m : Int), vs = [.ref p, .int m] ∧ Pool H p ∧ 0 < m ∧ m < 10000000000000000000000000000000000000000000000000000000000000000000000000000000000000000000000000000 ∧ ∀ (r : Int) (H' : Hp), 0 ≤ r → r < m → Stp p H H' → Q (.int r) H'
theorem ok_draw {f : Addr} {fd : FuncData} (D : FD K mg "_law_draw" sDraw ["_law_pool_here", "_law_many"] f fd) (mdm : mg "divmod" = none) : FnOk P w K mg base CX0 1 f fd ["_law_pool_here", "_law_many"] spDraw := by
  refine D.F.ok scDraw (fun vs H Q E h => ?_) (fun cdv A outer s H vs Q E hr h => ?_)
  · obtain ⟨p, m, rfl, _⟩ := h
    rfl
  · obtain ⟨p, m, rfl, ⟨a, b, c, e0, a0, a1, b0⟩, m0, m1, q⟩ := h
    refine ⟨_, pss_cons (ps_asg (pe_op op_add (pe_ix ix_list (pv 0) pe_int (fun _ _ => rfl)) pe_int) (pg_sub (pv 0) pe_int set_list))
      (pss_cons (ps_set (i := 2) scDraw.nd rfl (.inl rfl) (pe_ix ix_list (pv 0) pe_int (fun _ _ => rfl)))
      (pss_cons (ps_asg (pe_op op_mod (pe_op op_add (pe_op op_add (pe_op op_mul (pv 2) (pe_op op_add (pe_op op_mod (pv 2) pe_int) pe_int)) (pe_op op_mul pe_int (pe_ix ix_list (pv 0) pe_int (fun _ _ => rfl)))) pe_int) pe_int) (pg_sub (pv 0) pe_int set_list))
      (pss_cons (ps_if (pt_cmpR op_gt (pe_ix ix_list (pv 0) pe_int (fun _ _ => rfl)) pe_int (nomark _))
        (pss_cons (ps_asg (pe_callB call_divmodW (by rfl) mdm (by decide +kernel) (pa_cons (pe_ix ix_list (pv 0) pe_int (fun _ _ => rfl)) (pa_cons (pv 1) pa_nil))) (pg_tup (by rfl) (pgs_cons (pg_sub (pv 0) pe_int set_list) (pgs_cons (pg_name (i := 3) scDraw.nd rfl (.inl rfl)) pgs_nil))))
        (pss_one (ps_ret (pv 3)))) pss_nil)
      (pss_one (ps_ret (pe_op op_mod (pe_op op_fdiv (pe_ix ix_list (pv 0) pe_int (fun _ _ => rfl)) pe_int) (pv 1))))))), ?_⟩
    walk_at "go"
    refine c_ixL (.inl (.inl e0)) 2 rfl rfl ?_
    walk_at "go"
    refine c_setL e0 2 rfl ?_
    walk_at "go"
    refine c_ixL (.inl (.inl upd_same)) 0 rfl rfl ?_
    walk_at "go"
    refine c_ixL (.inl (.inl upd_same)) 2 rfl rfl ?_
    walk_at "go"
    refine c_setL upd_same 0 rfl ?_
    rw [upd_upd]
    obtain ⟨c', hc⟩ : ∃ c', c + 1 = c' := ⟨_, rfl⟩
    obtain ⟨a', ha, ha0, ha1⟩ : ∃ a', (a * (a % 41017 + 27011) + 50021 * c' + 13) % 2147483477 = a' ∧ 0 ≤ a' ∧ a' < 2147483477 := ⟨_, rfl, Int.emod_nonneg _ (by decide), Int.emod_lt_of_pos _ (by decide)⟩
    simp only [hc, List.set]
    simp only [ha]
    walk_at "go"
    refine c_ixL (.inl (.inl upd_same)) 1 rfl rfl ?_
    walk_at "go"
    refine ite2 (fun e => ?_) (fun e => ?_)
    · walk_at "go"
      refine c_ixL (.inl (.inl upd_same)) 1 rfl rfl ?_
      walk_at "go"
      refine ⟨_, _, rfl, ⟨m0, noPy (by omega) m1⟩, fun t nt => ?_⟩
      have np : p ≠ t := ne_of_none upd_same nt
      walk_at "go"
      refine c_gtup (.inl (.inl upd_same)) rfl ?_
      walk_at "go"
      refine c_setL ((upd_ne np).trans upd_same) 1 rfl ?_
      walk_at "go"
      refine q _ _ (Int.emod_nonneg _ (by omega)) (Int.emod_lt_of_pos _ m0) ⟨?_, ⟨_, _, _, upd_same, ha0, ha1, Int.ediv_nonneg b0 (by omega)⟩⟩
      refine (hid_upd.trans (hid_mono (same_new nt))).trans hid_upd
    · walk_at "go"
      refine c_ixL (.inl (.inl upd_same)) 0 rfl rfl ?_
      walk_at "go"
      refine q _ _ (Int.emod_nonneg _ (by omega)) (Int.emod_lt_of_pos _ m0) ⟨hid_upd, ⟨_, _, _, upd_same, ha0, ha1, b0⟩⟩
end
end Und
namespace Und
open PySem PySem.Spec PyProof.Rows L2
local macro_rules | `(tactic| walk_at "side") => `(tactic| first | decide | omega | exact ⟨by omega, by omega⟩ | (show (0 : Int) < _; omega) | (exact Or.inl ⟨by omega, by omega⟩) | (exact Or.inr ⟨by omega, by omega⟩) | (exact sz (by simp)) | (exact szl (by simp)))
local macro_rules | `(tactic| walk_at "u") => `(tactic| first
  | with_reducible refine c_seq ?_ | with_reducible refine c_next ?_ | with_reducible refine c_yes ?_ | with_reducible refine c_asg ?_ | with_reducible refine c_asg2 ?_ | with_reducible refine c_par ?_ | with_reducible refine c_two ?_ | with_reducible refine c_g ?_ | with_reducible refine c_gsub ?_ | with_reducible refine c_gcons ?_ | with_reducible refine c_gnil ?_ | with_reducible refine c_ret ?_ | with_reducible refine c_drop ?_
  | ((with_reducible refine c_var (v := ?v) ?h ?_); (case h => rfl)) | with_reducible refine c_c ?_ | with_reducible refine c_op ?_ | with_reducible refine c_un ?_ | with_reducible refine c_I0 ?_
  | ((with_reducible refine c_I ?h ?_); (case h => walk_at "side"))
  | ((with_reducible refine c_eq ?h ?_); (case h => rfl)) | ((with_reducible refine c_neq ?h ?_); (case h => rfl)) | with_reducible refine c_test ?_ | with_reducible refine c_B ?_ | with_reducible refine c_bl ?_ | with_reducible refine c_int ?_ | with_reducible refine c_ifs ?_ | with_reducible refine c_ife ?_
  | with_reducible refine c_andV ?_ | with_reducible refine c_orV ?_ | with_reducible refine c_notV ?_ | with_reducible refine c_and ?_ | with_reducible refine c_or ?_ | with_reducible refine c_not ?_
  | with_reducible refine c_call ?_ | with_reducible refine c_cb ?_ | with_reducible refine c_nil ?_ | with_reducible refine c_cons ?_
  | with_reducible refine c_tup ?_ | with_reducible refine c_lst ?_ | with_reducible refine c_sl ?_ | with_reducible refine c_nop ?_ | with_reducible refine c_part ?_ | with_reducible refine c_fld ?_
  | with_reducible refine c_for ?_ | with_reducible refine c_ilist ?_ | with_reducible refine c_itup ?_ | with_reducible refine c_irng1 ?_ | with_reducible refine c_lc ?_
  | with_reducible refine c_m1 ?_ | with_reducible refine c_isS ?_ | with_reducible refine c_chain ?_ | with_reducible refine c_str ?_ | with_reducible refine c_make ?_ | with_reducible refine c_meth ?_ | with_reducible refine c_prop ?_ | with_reducible refine c_sfld ?_ | with_reducible refine c_ienumT ?_ | with_reducible refine iteT ?_ | with_reducible refine iteF ?_ | with_reducible refine iteNT ?_ | with_reducible refine iteNF ?_
  | ((with_reducible refine iteDT ?h ?_); (case h => first | rfl | omega)) | ((with_reducible refine iteDF ?h ?_); (case h => first | omega | (intro z; cases z; done))) | ((with_reducible refine iteNDT ?h ?_); (case h => first | rfl | omega)) | ((with_reducible refine iteNDF ?h ?_); (case h => first | omega | (intro z; cases z; done))))
local macro_rules | `(tactic| walk_at "go") => `(tactic| repeat (walk_at "u"))
section
variable {P : Program} {w : World} {K : PySem.W.Frag} {mg : Str → Option Value} {base : Heap}
theorem c_draw {H : Hp} {Q : VK} {E : XK} {p : Addr} {m : Int} (pool : Pool H p) (m0 : 0 < m) (m1 : m < 10000000000000000000000000000000000000000000000000000000000000000000000000000000000000000000000000000) (h : ∀ (r : Int) (H' : Hp), 0 ≤ r → r < m → Stp p H H' → Q (.int r) H') : spDraw ([.ref p, .int m] ++ []) H Q E := ⟨p, m, rfl, pool, m0, m1, h⟩
theorem mod_at {α : Type} (xs : List α) (z : Int) (h : 0 < xs.length) : ∃ (j : Nat) (x : α), j < xs.length ∧ z % (xs.length : Int) = (j : Int) ∧ xs[j]? = some x ∧ x ∈ xs := by
  have h1 : 0 ≤ z % (xs.length : Int) := Int.emod_nonneg z (by omega)
  have h2 : z % (xs.length : Int) < (xs.length : Int) := Int.emod_lt_of_pos z (by omega)
  have hj : (z % (xs.length : Int)).toNat < xs.length := by omega
  exact ⟨_, xs[(z % (xs.length : Int)).toNat], hj, by omega, List.getElem?_eq_getElem hj, List.getElem_mem hj⟩
def ownNames : List Str := ["do", "undo", "redo", "all", "times", "keep", "old", "item", "save", "nothing", "none", "always"]
theorem ownNames_ok : ∀ z ∈ ownNames, IsName z := fun z hz => name_of (List.all_eq_true.mp (show ownNames.all nameB = true by decide +kernel) z hz)
def letters : List Nat := (Str.ofString "abcdefghijklmnopqrstuvwxyz").cps.toList
theorem letters_ok (c : Nat) (hc : c ∈ letters) : 97 ≤ c ∧ c ≤ 122 := by
  have := List.all_eq_true.mp (show (letters.all fun c => decide (97 ≤ c) && decide (c ≤ 122)) = true by decide +kernel) c hc
  simpa using this
theorem letter_at {k n : Int} (h0 : 0 ≤ k) (h1 : k < 26) : ∃ (j : Nat) (c : Nat), k = (j : Int) ∧ letters[j]? = some c ∧ 97 ≤ c ∧ c ≤ 122 := by
  have hl : letters.length = 26 := by decide +kernel
  have hj : k.toNat < letters.length := by omega
  exact ⟨k.toNat, letters[k.toNat], by omega, List.getElem?_eq_getElem hj, letters_ok _ (List.getElem_mem hj)⟩
/-- a new list of so many names -/
def spCalls : Sp := fun vs H Q _ => ∃ (p : Addr) (m : Int), vs = [.ref p, .int m] ∧ Pool H p ∧ 0 ≤ m ∧ m ≤ 1000 ∧
  ∀ (D : Addr) (ns : List Str) (H' : Hp), H D = none → Stp p H H' → H' D = some (.lst (ns.map V.str)) → (ns.length : Int) = m → (∀ z ∈ ns, IsName z) → Q (.ref D) H'
theorem ok_calls (T : TX K mg) : FnOk P w K mg base CX0 2 T.f_law_calls T.fd_law_calls pCalls spCalls := by
  have G_law_draw : FnOk P w K mg base CX0 1 T.f_law_draw T.fd_law_draw ["_law_pool_here", "_law_many"] spDraw := ok_draw T.d_law_draw T.divmod
  refine T.d_law_calls.F.ok scCalls (fun vs H Q E h => ?_) (fun cdv A outer s H vs Q E hr h => ?_)
  · obtain ⟨p, m, rfl, _⟩ := h
    rfl
  · obtain ⟨p, m, rfl, pool, m0, m1, q⟩ := h
    refine ⟨_, pss_cons (ps_set (i := 2) scCalls.nd rfl (.inr rfl) (pe_lst (pa_cons (pe_str) (pa_cons (pe_str) (pa_cons (pe_str) (pa_cons (pe_str) (pa_cons (pe_str) (pa_cons (pe_str) (pa_cons (pe_str) (pa_cons (pe_str) (pa_cons (pe_str) (pa_cons (pe_str) (pa_cons (pe_str) (pa_cons (pe_str) pa_nil))))))))))))))
      (pss_cons (ps_asg (pe_tup (pa_cons (pcall T.d_law_draw G_law_draw (hr.mono (by decide)) (by rfl) pass0 (pa_cons (pv 0) (pa_cons (pe_int) pa_nil))) (pa_cons (pcall T.d_law_draw G_law_draw (hr.mono (by decide)) (by rfl) pass0 (pa_cons (pv 0) (pa_cons (pe_int) pa_nil))) pa_nil))) (pgTup (K := K) (n := 2) (by rfl) (pgs_cons (pg_name (i := 3) scCalls.nd rfl (.inr rfl)) (pgs_cons (pg_name (i := 4) scCalls.nd rfl (.inl rfl)) pgs_nil))))
      (pss_cons (ps_if (pt_cmpR op_eq (pv 4) (pe_int) (nomark _)) (pss_one (ps_ret (pe_lc (own := [("_law_k", 8)]) (g := gName 8) (tt := tYes) (by rfl) scCalls.nd (pi_range1 (by rfl) T.range (pa_cons (pv 1) pa_nil)) (blkOk_by (own := [("_law_k", 8)]) (N := nCalls) (sc := defScope sCalls) (by decide +kernel)) (fun _ _ _ _ _ => pg_name (i := 8) scCalls.nd rfl (.inl rfl)) (fun _ _ _ _ _ => pts_nil) (fun _ _ _ _ _ => pe_ix (ixL (K := K)) (pv 2) (pe_op op_mod (pe_op op_add (pv 3) (pe_op op_mul (pe_int) (pv 8))) (pe_int)) (fun _ _ => rfl))))) (pss_nil))
      (pss_cons (ps_set (i := 5) scCalls.nd rfl (.inr rfl) (pe_str))
      (pss_cons (ps_if (pt_cmpR op_eq (pv 4) (pe_int) (nomark _)) (pss_one (ps_ret (pe_lc (own := [("_law_k", 8)]) (g := gName 8) (tt := tYes) (by rfl) scCalls.nd (pi_range1 (by rfl) T.range (pa_cons (pv 1) pa_nil)) (blkOk_by (own := [("_law_k", 8)]) (N := nCalls) (sc := defScope sCalls) (by decide +kernel)) (fun _ _ _ _ _ => pg_name (i := 8) scCalls.nd rfl (.inl rfl)) (fun _ _ _ _ _ => pts_nil) (fun _ _ _ _ _ => pe_op op_mulS (pe_ix ix_str (pv 5) (pe_op op_mod (pe_op op_add (pv 3) (pe_op op_mul (pe_int) (pv 8))) (pe_int)) (fun _ _ => rfl)) (pe_op op_add (pe_int) (pe_op op_mod (pv 8) (pe_int))))))) (pss_nil))
      (pss_cons (ps_if (pt_cmpR op_eq (pv 4) (pe_int) (nomark _)) (pss_one (ps_ret (pe_lc (own := [("_law_k", 8)]) (g := gName 8) (tt := tYes) (by rfl) scCalls.nd (pi_range1 (by rfl) T.range (pa_cons (pv 1) pa_nil)) (blkOk_by (own := [("_law_k", 8)]) (N := nCalls) (sc := defScope sCalls) (by decide +kernel)) (fun _ _ _ _ _ => pg_name (i := 8) scCalls.nd rfl (.inl rfl)) (fun _ _ _ _ _ => pts_nil) (fun _ _ _ _ _ => pe_ix (ixL (K := K)) (pe_lst (pa_cons (pe_str) (pa_cons (pe_str) pa_nil))) (pcall T.d_law_draw G_law_draw (hr.mono (by decide)) (by rfl) pass0 (pa_cons (pv 0) (pa_cons (pe_int) pa_nil))) (fun _ _ => rfl))))) (pss_nil))
      (pss_cons (ps_set (i := 6) scCalls.nd rfl (.inr rfl) (peJoin (K := K) (pe_str) (pe_lc (own := [("_law_k", 8)]) (g := gName 8) (tt := tYes) (by rfl) scCalls.nd (pi_range1 (by rfl) T.range (pa_cons (pcall T.d_law_draw G_law_draw (hr.mono (by decide)) (by rfl) pass0 (pa_cons (pv 0) (pa_cons (pe_int) pa_nil))) pa_nil)) (blkOk_by (own := [("_law_k", 8)]) (N := nCalls) (sc := defScope sCalls) (by decide +kernel)) (fun _ _ _ _ _ => pg_name (i := 8) scCalls.nd rfl (.inl rfl)) (fun _ _ _ _ _ => pts_nil) (fun _ _ _ _ _ => pe_ix ix_str (pv 5) (pcall T.d_law_draw G_law_draw (hr.mono (by decide)) (by rfl) pass0 (pa_cons (pv 0) (pa_cons (pe_int) pa_nil))) (fun _ _ => rfl)))))
      (pss_cons (ps_set (i := 7) scCalls.nd rfl (.inr rfl) (pcall T.d_law_draw G_law_draw (hr.mono (by decide)) (by rfl) pass0 (pa_cons (pv 0) (pa_cons (pe_op op_add (pe_callB callLnS (by rfl) T.len (by decide +kernel) (pa_cons (pv 6) pa_nil)) (pe_int)) pa_nil))))
      (pss_one (ps_ret (pe_lc (own := [("_law_k", 8)]) (g := gName 8) (tt := tYes) (by rfl) scCalls.nd (pi_range1 (by rfl) T.range (pa_cons (pv 1) pa_nil)) (blkOk_by (own := [("_law_k", 8)]) (N := nCalls) (sc := defScope sCalls) (by decide +kernel)) (fun _ _ _ _ _ => pg_name (i := 8) scCalls.nd rfl (.inl rfl)) (fun _ _ _ _ _ => pts_nil) (fun _ _ _ _ _ => pe_op opAddS (pe_op opAddS (pe_slice sl_str (pv 6) po_none (po_some (pv 7))) (pe_ix ix_str (pv 5) (pe_op op_mod (pe_op op_add (pv 3) (pe_op op_mul (pe_int) (pv 8))) (pe_int)) (fun _ _ => rfl))) (pe_slice sl_str (pv 6) (po_some (pv 7)) po_none)))))))))))), ?_⟩
    have np : ∀ {H' : Hp}, Stp p H H' → ∀ x, H' x = none → H x = none := fun st x nx => by
      cases hx : H x with
      | none => rfl
      | some o =>
        by_cases e : x = p
        · obtain ⟨a, b, c, e2, _⟩ := st.q
          rw [e, e2] at nx
          cases nx
        · rw [st.at hx (Ne.symm e)] at nx
          cases nx
    walk_at "go"
    refine c_newL (by simp) fun o H1 no s1 e1 => ?_
    have st1 : Stp p H H1 := .of pool s1
    have po : p ≠ o := pool.ne no
    walk_at "go"
    refine c_draw st1.q (by decide) (by decide) fun b H2 b0 b1 st2 => ?_
    walk_at "go"
    refine c_draw st2.q (by decide) (by decide) fun md H3 md0 md1 st3 => ?_
    walk_at "go"
    refine c_newT (by simp) fun t H4 nt s4 e4 => c_gtup (.inl (.inl e4)) rfl ?_
    have st4 : Stp p H3 H4 := .of st3.q s4
    walk_at "go"
    have st14 : Stp p H1 H4 := (st2.trans st3).trans st4
    have st04 : Stp p H H4 := st1.trans st14
    have eo4 : H4 o = _ := st14.at e1 po
    refine ite2 (fun _ => ?_) (fun _ => ?_)
    · walk_at "go"
      refine ⟨m, rfl, by omega, by omega, fun D nD => ?_⟩
      refine lc_rg (fun _ v => ∃ z, v = .str z ∧ IsName z) nD (by omega) (fun _ => rfl) (fun i H5 Q' hi s5 k => ?_) (fun H5 xs s5 e5 l r => ?_)
      · obtain ⟨j, z, hj, ej, ez, hz⟩ := mod_at ownNames (b + 5 * (i : Int)) (by decide)
        have ez' : (ownNames.map V.str)[j]? = some (.str z) := by rw [List.getElem?_map, ez]; rfl
        walk_at "go"
        refine c_ixL (.inl (.inl (s5 _ _ eo4))) j ej ez' ?_
        exact k _ _ (Same.refl _) ⟨z, rfl, ownNames_ok _ hz⟩
      · obtain ⟨ns, rfl, hn⟩ := strs_of fun i y e => r i y e
        rw [List.length_map] at l
        exact q D ns H5 (np st04 _ nD) (st04.trans (.of st4.q s5)) e5 (by omega) hn
    walk_at "go"
    refine ite2 (fun _ => ?_) (fun _ => ?_)
    · walk_at "go"
      refine ⟨m, rfl, by omega, by omega, fun D nD => ?_⟩
      refine lc_rg (fun _ v => ∃ z, v = .str z ∧ IsName z) nD (by omega) (fun _ => rfl) (fun i H5 Q' hi s5 k => ?_) (fun H5 xs s5 e5 l r => ?_)
      · obtain ⟨j, c, hj, ej, ec, hc⟩ := mod_at letters (b + 7 * (i : Int)) (by decide)
        walk_at "go"
        refine c_ixS (by decide +kernel) j ej ec ?_
        walk_at "go"
        obtain ⟨n, en, n1, n8⟩ : ∃ n : Nat, 1 + (i : Int) % 8 = (n : Int) ∧ 1 ≤ n ∧ n ≤ 8 := ⟨(1 + (i : Int) % 8).toNat, by omega, by omega, by omega⟩
        rw [en]
        refine c_mulS (mul_ok c n (by omega)) ?_
        exact k _ _ (Same.refl _) ⟨_, rfl, rep_name (letters_ok c hc) n1 n8⟩
      · obtain ⟨ns, rfl, hn⟩ := strs_of fun i y e => r i y e
        rw [List.length_map] at l
        exact q D ns H5 (np st04 _ nD) (st04.trans (.of st4.q s5)) e5 (by omega) hn
    walk_at "go"
    refine ite2 (fun _ => ?_) (fun _ => ?_)
    · walk_at "go"
      refine ⟨m, rfl, by omega, by omega, fun D nD => ?_⟩
      refine lc_rgP (fun _ v => ∃ z, v = .str z ∧ IsName z) st4.q nD (by omega) (fun _ => rfl) (fun i H5 Q' hi s5 k => ?_) (fun H5 xs s5 e5 l r => ?_)
      · walk_at "go"
        refine c_newL (by simp) fun u H6 nu s6 e6 => ?_
        walk_at "go"
        have st6 : Stp p H5 H6 := .of s5.q s6
        refine c_draw st6.q (by decide) (by decide) fun d H7 d0 d1 st7 => ?_
        have e7 : H7 u = _ := st7.at e6 (s5.q.ne nu)
        have hd : d = 0 ∨ d = 1 := by omega
        rcases hd with rfl | rfl
        · refine c_ixL (.inl (.inl e7)) 0 rfl rfl ?_
          exact k _ _ (st6.trans st7) ⟨_, rfl, name_of (by decide +kernel)⟩
        · refine c_ixL (.inl (.inl e7)) 1 rfl rfl ?_
          exact k _ _ (st6.trans st7) ⟨_, rfl, name_of (by decide +kernel)⟩
      · obtain ⟨ns, rfl, hn⟩ := strs_of fun i y e => r i y e
        rw [List.length_map] at l
        exact q D ns H5 (np st04 _ nD) (st04.trans s5) e5 (by omega) hn
    walk_at "go"
    refine c_draw st4.q (by decide) (by decide) fun d H5 d0 d1 st5 => ?_
    walk_at "go"
    refine ⟨d, rfl, by omega, by omega, fun D nD => ?_⟩
    refine lc_rgP (fun _ v => ∃ z, v = .str z ∧ ∃ c, z = ⟨#[c]⟩ ∧ 97 ≤ c ∧ c ≤ 122) st5.q nD (by omega) (fun _ => rfl) (fun i H6 Q' hi s6 k => ?_) (fun H6 xs st6 e6 l r => ?_)
    · walk_at "go"
      refine c_draw s6.q (by decide) (by decide) fun d H7 d0 d1 st7 => ?_
      obtain ⟨j, c, ej, ec, hc⟩ := letter_at (n := 0) d0 d1
      refine c_ixS (by decide +kernel) j ej ec ?_
      exact k _ _ st7 ⟨_, rfl, c, rfl, hc⟩
    obtain ⟨ns, rfl, hn⟩ := strs_of fun i y e => r i y e
    rw [List.length_map] at l
    obtain ⟨jl, jlow⟩ := join_ones hn
    refine c_joinL (.inl (.inl e6)) ?_ ?_
    · rw [sum_ones hn, show (Str.ofString "").length = 0 from rfl]
      omega
    obtain ⟨stem, estem⟩ : ∃ stem, Txt.join (Str.ofString "") ns = stem := ⟨_, rfl⟩
    rw [show Txt.join Str.empty ns = stem from estem] at jl jlow
    rw [estem]
    have hstem : stem.length ≤ 7 := by omega
    walk_at "go"
    refine c_lnS (by omega) ?_
    walk_at "go"
    refine c_draw st6.q (by omega) (by omega) fun ct H7 c0 c1 st7 => ?_
    walk_at "go"
    have st47 : Stp p H4 H7 := (st5.trans st6).trans st7
    refine ⟨m, rfl, by omega, by omega, fun D nD => ?_⟩
    refine lc_rg (fun _ v => ∃ z, v = .str z ∧ IsName z) nD (by omega) (fun _ => rfl) (fun i H8 Q' hi s8 k => ?_) (fun H8 xs s8 e8 l r => ?_)
    · obtain ⟨j, c, hj, ej, ec, hc⟩ := mod_at letters (b + 5 * (i : Int)) (by decide)
      have hc := letters_ok c hc
      obtain ⟨cn, rfl⟩ : ∃ cn : Nat, ct = (cn : Int) := ⟨ct.toNat, by omega⟩
      obtain ⟨l1, l2⟩ := cut_len stem cn (by omega)
      walk_at "go"
      refine c_slS (by omega) ?_
      walk_at "go"
      refine c_ixS (by decide +kernel) j ej ec ?_
      have l3 : (⟨#[c]⟩ : Str).length = 1 := rfl
      refine c_addS (by omega) ?_
      walk_at "go"
      refine c_slS (by omega) ?_
      have l4 : (cutS stem none (some (cn : Int)) ++ ⟨#[c]⟩ : Str).length = cn + 1 := by rw [PySem.Str.length_append]; omega
      refine c_addS (by omega) ?_
      refine k _ _ (Same.refl _) ⟨_, rfl, ⟨?_, ?_, low_app (low_app (low_cut jlow) (low_one hc)) (low_cut jlow)⟩⟩
      · rw [PySem.Str.length_append]; omega
      · rw [PySem.Str.length_append]; omega
    · obtain ⟨ns, rfl, hn⟩ := strs_of fun i y e => r i y e
      rw [List.length_map] at l
      exact q D ns H8 (np (st04.trans st47) _ nD) ((st04.trans st47).trans (.of st47.q s8)) e8 (by omega) hn
end
end Und
namespace Und
open PySem PySem.Spec PyProof.Rows L2
local macro_rules | `(tactic| walk_at "side") => `(tactic| first | decide | omega | exact ⟨by omega, by omega⟩ | (show (0 : Int) < _; omega) | (exact Or.inl ⟨by omega, by omega⟩) | (exact Or.inr ⟨by omega, by omega⟩) | (exact sz (by simp)) | (exact szl (by simp)))
local macro_rules | `(tactic| walk_at "u") => `(tactic| first
  | with_reducible refine c_seq ?_ | with_reducible refine c_next ?_ | with_reducible refine c_yes ?_ | with_reducible refine c_asg ?_ | with_reducible refine c_asg2 ?_ | with_reducible refine c_par ?_ | with_reducible refine c_two ?_ | with_reducible refine c_g ?_ | with_reducible refine c_gsub ?_ | with_reducible refine c_gcons ?_ | with_reducible refine c_gnil ?_ | with_reducible refine c_ret ?_ | with_reducible refine c_drop ?_
  | ((with_reducible refine c_var (v := ?v) ?h ?_); (case h => rfl)) | with_reducible refine c_c ?_ | with_reducible refine c_op ?_ | with_reducible refine c_un ?_ | with_reducible refine c_I0 ?_
  | ((with_reducible refine c_I ?h ?_); (case h => walk_at "side"))
  | ((with_reducible refine c_eq ?h ?_); (case h => rfl)) | ((with_reducible refine c_neq ?h ?_); (case h => rfl)) | with_reducible refine c_test ?_ | with_reducible refine c_B ?_ | with_reducible refine c_bl ?_ | with_reducible refine c_int ?_ | with_reducible refine c_ifs ?_ | with_reducible refine c_ife ?_
  | with_reducible refine c_andV ?_ | with_reducible refine c_orV ?_ | with_reducible refine c_notV ?_ | with_reducible refine c_and ?_ | with_reducible refine c_or ?_ | with_reducible refine c_not ?_
  | with_reducible refine c_call ?_ | with_reducible refine c_cb ?_ | with_reducible refine c_nil ?_ | with_reducible refine c_cons ?_
  | with_reducible refine c_tup ?_ | with_reducible refine c_lst ?_ | with_reducible refine c_sl ?_ | with_reducible refine c_nop ?_ | with_reducible refine c_part ?_ | with_reducible refine c_fld ?_
  | with_reducible refine c_for ?_ | with_reducible refine c_ilist ?_ | with_reducible refine c_itup ?_ | with_reducible refine c_irng1 ?_ | with_reducible refine c_lc ?_
  | with_reducible refine c_m1 ?_ | with_reducible refine c_isS ?_ | with_reducible refine c_chain ?_ | with_reducible refine c_str ?_ | with_reducible refine c_make ?_ | with_reducible refine c_meth ?_ | with_reducible refine c_prop ?_ | with_reducible refine c_sfld ?_ | with_reducible refine c_ienumT ?_ | with_reducible refine iteT ?_ | with_reducible refine iteF ?_ | with_reducible refine iteNT ?_ | with_reducible refine iteNF ?_
  | ((with_reducible refine iteDT ?h ?_); (case h => first | rfl | omega)) | ((with_reducible refine iteDF ?h ?_); (case h => first | omega | (intro z; cases z; done))) | ((with_reducible refine iteNDT ?h ?_); (case h => first | rfl | omega)) | ((with_reducible refine iteNDF ?h ?_); (case h => first | omega | (intro z; cases z; done))))
local macro_rules | `(tactic| walk_at "go") => `(tactic| repeat (walk_at "u"))
/-! ### the mathematics of undo and redo -/
theorem undo_line (am : Option Int) (ps fs : List Str) : (hUndo am (ps, fs)).1 ++ (hUndo am (ps, fs)).2 = ps ++ fs := by
  show ps.take _ ++ (ps.drop _ ++ fs) = _
  rw [← List.append_assoc, List.take_append_drop]
theorem redo_line (am : Option Int) (ps fs : List Str) : (hRedo am (ps, fs)).1 ++ (hRedo am (ps, fs)).2 = ps ++ fs := by
  show (ps ++ fs.take _) ++ fs.drop _ = _
  rw [List.append_assoc, List.take_append_drop]
theorem undo_one (am : Option Int) (ps fs : List Str) : (hUndo am (ps, fs)).1 = ps.take (ps.length - mvd am ps.length) := rfl
theorem redo_one (am : Option Int) (ps fs : List Str) : (hRedo am (ps, fs)).1 = ps ++ fs.take (mvd am fs.length) := rfl
/-- the same line parted at the same place -/
theorem part_eq {a b c d : List Str} (h : a ++ b = c ++ d) (l : a.length = c.length) : a = c ∧ b = d := List.append_inj h l
theorem undo_len (am : Option Int) (ps fs : List Str) : (hUndo am (ps, fs)).1.length = ps.length - mvd am ps.length := by
  rw [undo_one, List.length_take]
  omega
theorem redo_len (am : Option Int) (ps fs : List Str) : (hRedo am (ps, fs)).1.length = ps.length + mvd am fs.length := by
  have := mvd_le am fs.length
  rw [redo_one, List.length_append, List.length_take]
  omega
theorem undo_flen (am : Option Int) (ps fs : List Str) : (hUndo am (ps, fs)).2.length = fs.length + mvd am ps.length := by
  have h := congrArg List.length (undo_line am ps fs)
  have l := undo_len am ps fs
  have := mvd_le am ps.length
  rw [List.length_append, List.length_append] at h
  omega
theorem redo_flen (am : Option Int) (ps fs : List Str) : (hRedo am (ps, fs)).2.length = fs.length - mvd am fs.length := by
  have h := congrArg List.length (redo_line am ps fs)
  have l := redo_len am ps fs
  have := mvd_le am fs.length
  rw [List.length_append, List.length_append] at h
  omega
theorem mvd_some (i : Int) (n : Nat) : mvd (some i) n = min i.toNat n := rfl
theorem undo_undo (i j : Int) (hi : 1 ≤ i) (hj : 1 ≤ j) (h : List Str × List Str) : hUndo (some j) (hUndo (some i) h) = hUndo (some (i + j)) h := by
  obtain ⟨ps, fs⟩ := h
  obtain ⟨a, b, e⟩ : ∃ a b, hUndo (some i) (ps, fs) = (a, b) := ⟨_, _, rfl⟩
  have l1 := undo_line (some i) ps fs
  have n1 := undo_len (some i) ps fs
  rw [e] at l1 n1 ⊢
  have l2 := undo_line (some j) a b
  have n2 := undo_len (some j) a b
  have l3 := undo_line (some (i + j)) ps fs
  have n3 := undo_len (some (i + j)) ps fs
  have := part_eq (l2.trans (l1.trans l3.symm)) (by simp only [mvd_some] at *; omega)
  exact Prod.ext this.1 this.2
theorem redo_redo (i j : Int) (hi : 1 ≤ i) (hj : 1 ≤ j) (h : List Str × List Str) : hRedo (some j) (hRedo (some i) h) = hRedo (some (i + j)) h := by
  obtain ⟨ps, fs⟩ := h
  obtain ⟨a, b, e⟩ : ∃ a b, hRedo (some i) (ps, fs) = (a, b) := ⟨_, _, rfl⟩
  have l1 := redo_line (some i) ps fs
  have n1 := redo_len (some i) ps fs
  have m1 := redo_flen (some i) ps fs
  rw [e] at l1 n1 m1 ⊢
  have l2 := redo_line (some j) a b
  have n2 := redo_len (some j) a b
  have l3 := redo_line (some (i + j)) ps fs
  have n3 := redo_len (some (i + j)) ps fs
  have := part_eq (l2.trans (l1.trans l3.symm)) (by simp only [mvd_some] at *; omega)
  exact Prod.ext this.1 this.2
theorem undo_redo (i : Int) (hi : 1 ≤ i) (ps fs : List Str) : decide ((hRedo (some i) (hUndo (some i) (ps, fs))).1 = ps ∧ (hRedo (some i) (hUndo (some i) (ps, fs))).2 = fs) = (decide (i ≤ (ps.length : Int)) || decide (fs = [])) := by
  obtain ⟨a, b, e⟩ : ∃ a b, hUndo (some i) (ps, fs) = (a, b) := ⟨_, _, rfl⟩
  have l1 := undo_line (some i) ps fs
  have n1 := undo_len (some i) ps fs
  have m1 := undo_flen (some i) ps fs
  rw [e] at l1 n1 m1 ⊢
  have l2 := redo_line (some i) a b
  have n2 := redo_len (some i) a b
  simp only [mvd_some] at *
  by_cases h : i ≤ (ps.length : Int) ∨ fs = []
  · have hl : (hRedo (some i) (a, b)).1.length = ps.length := by
      rcases h with h | h
      · omega
      · rw [h] at m1
        simp only [List.length_nil] at m1
        omega
    have := part_eq (l2.trans l1) hl
    rw [decide_eq_true this]
    rcases h with h | h
    · rw [decide_eq_true h]
      rfl
    · rw [decide_eq_true h, Bool.or_true]
  · have h1 : ¬ i ≤ (ps.length : Int) := fun z => h (.inl z)
    have h2 : ¬ fs = [] := fun z => h (.inr z)
    have hf : 0 < fs.length := List.length_pos_iff.mpr h2
    rw [decide_eq_false h1, decide_eq_false h2]
    refine decide_eq_false fun z => ?_
    have := congrArg List.length z.1
    omega
theorem redo_undo (i : Int) (hi : 1 ≤ i) (ps fs : List Str) : decide ((hUndo (some i) (hRedo (some i) (ps, fs))).1 = ps ∧ (hUndo (some i) (hRedo (some i) (ps, fs))).2 = fs) = (decide (i ≤ (fs.length : Int)) || decide (ps = [])) := by
  obtain ⟨a, b, e⟩ : ∃ a b, hRedo (some i) (ps, fs) = (a, b) := ⟨_, _, rfl⟩
  have l1 := redo_line (some i) ps fs
  have n1 := redo_len (some i) ps fs
  rw [e] at l1 n1 ⊢
  have l2 := undo_line (some i) a b
  have n2 := undo_len (some i) a b
  simp only [mvd_some] at *
  by_cases h : i ≤ (fs.length : Int) ∨ ps = []
  · have hl : (hUndo (some i) (a, b)).1.length = ps.length := by
      rcases h with h | h
      · omega
      · rw [h] at n1 ⊢
        simp only [List.length_nil] at n1 ⊢
        omega
    have := part_eq (l2.trans l1) hl
    rw [decide_eq_true this]
    rcases h with h | h
    · rw [decide_eq_true h]
      rfl
    · rw [decide_eq_true h, Bool.or_true]
  · have h1 : ¬ i ≤ (fs.length : Int) := fun z => h (.inl z)
    have h2 : ¬ ps = [] := fun z => h (.inr z)
    have hf : 0 < ps.length := List.length_pos_iff.mpr h2
    rw [decide_eq_false h1, decide_eq_false h2]
    refine decide_eq_false fun z => ?_
    have := congrArg List.length z.1
    omega
section
variable {K : PySem.W.Frag} {C a : Addr} {H : Hp} {ps fs : List Str} {Q : VK} {R : Prop} {sp : Sp} {dvs : List V} {E : XK}
theorem recvH (h : HistAt K C H a ps fs) {m : Str} (h1 : ¬ m = "past") (h2 : ¬ m = "future") (q : R) : ∃ a' dx fs', V.ref a = .ref a' ∧ H a' = some (.ins C dx fs') ∧ fs'.lookup m = none ∧ R := by
  obtain ⟨⟨dx, tp, tf, e, _⟩, _⟩ := h
  exact ⟨a, dx, _, rfl, e, flds_no _ _ h1 h2, q⟩
theorem recvP (h : HistAt K C H a ps fs) (q : sp (.ref a :: dvs) H Q E) : rPrp C sp dvs E (.ref a) H Q := by
  obtain ⟨⟨dx, tp, tf, e, _⟩, _⟩ := h
  exact ⟨a, dx, _, rfl, e, q⟩
theorem pastH (c : Cls K C) (n : NoAttr K C "past") (h : HistAt K C H a ps fs) (q : ∀ tp, SqT K H tp (ps.map V.str) → Q (.ref tp) H) : rFld K "past" (.ref a) H Q := by
  obtain ⟨⟨dx, tp, tf, e, h1, _⟩, _⟩ := h
  exact ⟨a, C, dx, _, _, rfl, e, c, n, flds_past _ _, q tp h1⟩
theorem futH (c : Cls K C) (n : NoAttr K C "future") (h : HistAt K C H a ps fs) (q : ∀ tf, SqT K H tf (fs.map V.str) → Q (.ref tf) H) : rFld K "future" (.ref a) H Q := by
  obtain ⟨⟨dx, tp, tf, e, _, h2⟩, _⟩ := h
  exact ⟨a, C, dx, _, _, rfl, e, c, n, flds_future _ _, q tf h2⟩
theorem c_isiC (c : C8.InsC K C) {dx : Addr} {gs : List (Str × V)} (e : H a = some (.ins C dx gs)) (q : Q (.bl true) H) : rIsi K [.ref a, .ref C] H Q :=
  ⟨.ref a, .ref C, .ref C, .ref C, true, rfl, .own C, .base (TyOf.ins e c.cl c.ha c.hn c.htk c.hm), c.me, q⟩
end
section
variable {P : Program} {w : World} {K : PySem.W.Frag} {mg : Str → Option Value} {base : Heap}
def spEqH (K : PySem.W.Frag) (C : Addr) : Sp := fun vs H Q _ => ∃ (a b : Addr) (ps fs qs gs : List Str), vs = [.ref a, .ref b] ∧ HistAt K C H a ps fs ∧ HistAt K C H b qs gs ∧ Q (.bl (decide (ps = qs ∧ fs = gs))) H
theorem ok_eq (T : TX K mg) : FnOk P w K mg base CX0 1 T.f_History_eq T.fd_History_eq pHEq (spEqH K T.C_History) := by
  refine T.F_History_eq.ok scHEq (fun vs H Q E h => ?_) (fun cdv A outer s H vs Q E hr h => ?_)
  · obtain ⟨a, b, ps, fs, qs, gs, rfl, _⟩ := h
    rfl
  · obtain ⟨a, b, ps, fs, qs, gs, rfl, hA, hB, q⟩ := h
    refine ⟨_, pss_one (ps_ret (pe_and (pe_callB (callIsi (K := K)) (by rfl) T.isinstance (by decide +kernel) (pa_cons (pv 1) (pa_cons (pe_glob (v := .ref T.C_History) rfl T.m_History rfl) pa_nil))) (pe_and (pe_cmpR (opEqD (K := K) hr.units) (peFld (K := K) (pv 0) rfl) (peFld (K := K) (pv 1) rfl) (nomark _)) (pe_one (pe_cmpR (opEqD (K := K) hr.units) (peFld (K := K) (pv 0) rfl) (peFld (K := K) (pv 1) rfl) (nomark _)))))), ?_⟩
    obtain ⟨⟨dx, tp, tf, eb, _⟩, _⟩ := id hB
    walk_at "go"
    refine c_isiC T.is_History eb ?_
    walk_at "go"
    refine pastH T.cl_History T.n_History_past hA fun t1 h1 => ?_
    walk_at "go"
    refine pastH T.cl_History T.n_History_past hB fun t2 h2 => ?_
    refine c_eqD (dp_names h1) (dp_names h2) (dok_names fun z hz => (hA.okp z hz).low) (dok_names fun z hz => (hB.okp z hz).low) (by decide) (by decide) ?_
    rw [eqv_names]
    walk_at "go"
    by_cases e1 : ps = qs
    · walk_at "go"
      refine futH T.cl_History T.n_History_future hA fun t3 h3 => ?_
      walk_at "go"
      refine futH T.cl_History T.n_History_future hB fun t4 h4 => ?_
      refine c_eqD (dp_names h3) (dp_names h4) (dok_names fun z hz => (hA.okf z hz).low) (dok_names fun z hz => (hB.okf z hz).low) (by decide) (by decide) ?_
      rw [eqv_names]
      have e : decide (ps = qs ∧ fs = gs) = decide (fs = gs) := by simp [e1]
      rw [e] at q
      exact q
    · rw [decide_eq_false e1]
      have e : decide (ps = qs ∧ fs = gs) = false := decide_eq_false fun z => e1 z.1
      rw [e] at q
      exact q
end
end Und
set_option exponentiation.threshold 4000
namespace Und
open PySem PySem.Spec PyProof.Rows L2
local macro_rules | `(tactic| walk_at "side") => `(tactic| first | decide | omega | exact ⟨by omega, by omega⟩ | (show (0 : Int) < _; omega) | (exact Or.inl ⟨by omega, by omega⟩) | (exact Or.inr ⟨by omega, by omega⟩) | (exact sz (by simp)) | (exact szl (by simp)))
local macro_rules | `(tactic| walk_at "u") => `(tactic| first
  | with_reducible refine c_seq ?_ | with_reducible refine c_next ?_ | with_reducible refine c_yes ?_ | with_reducible refine c_asg ?_ | with_reducible refine c_asg2 ?_ | with_reducible refine c_par ?_ | with_reducible refine c_two ?_ | with_reducible refine c_g ?_ | with_reducible refine c_gsub ?_ | with_reducible refine c_gcons ?_ | with_reducible refine c_gnil ?_ | with_reducible refine c_ret ?_ | with_reducible refine c_drop ?_
  | ((with_reducible refine c_var (v := ?v) ?h ?_); (case h => rfl)) | with_reducible refine c_c ?_ | with_reducible refine c_op ?_ | with_reducible refine c_un ?_ | with_reducible refine c_I0 ?_
  | ((with_reducible refine c_I ?h ?_); (case h => walk_at "side"))
  | ((with_reducible refine c_eq ?h ?_); (case h => rfl)) | ((with_reducible refine c_neq ?h ?_); (case h => rfl)) | with_reducible refine c_test ?_ | with_reducible refine c_B ?_ | with_reducible refine c_bl ?_ | with_reducible refine c_int ?_ | with_reducible refine c_ifs ?_ | with_reducible refine c_ife ?_
  | with_reducible refine c_andV ?_ | with_reducible refine c_orV ?_ | with_reducible refine c_notV ?_ | with_reducible refine c_and ?_ | with_reducible refine c_or ?_ | with_reducible refine c_not ?_
  | with_reducible refine c_call ?_ | with_reducible refine c_cb ?_ | with_reducible refine c_nil ?_ | with_reducible refine c_cons ?_
  | with_reducible refine c_tup ?_ | with_reducible refine c_lst ?_ | with_reducible refine c_sl ?_ | with_reducible refine c_nop ?_ | with_reducible refine c_part ?_ | with_reducible refine c_fld ?_
  | with_reducible refine c_for ?_ | with_reducible refine c_ilist ?_ | with_reducible refine c_itup ?_ | with_reducible refine c_irng1 ?_ | with_reducible refine c_lc ?_
  | with_reducible refine c_m1 ?_ | with_reducible refine c_isS ?_ | with_reducible refine c_chain ?_ | with_reducible refine c_str ?_ | with_reducible refine c_make ?_ | with_reducible refine c_meth ?_ | with_reducible refine c_prop ?_ | with_reducible refine c_sfld ?_ | with_reducible refine c_ienumT ?_ | with_reducible refine iteT ?_ | with_reducible refine iteF ?_ | with_reducible refine iteNT ?_ | with_reducible refine iteNF ?_
  | ((with_reducible refine iteDT ?h ?_); (case h => first | rfl | omega)) | ((with_reducible refine iteDF ?h ?_); (case h => first | omega | (intro z; cases z; done))) | ((with_reducible refine iteNDT ?h ?_); (case h => first | rfl | omega)) | ((with_reducible refine iteNDF ?h ?_); (case h => first | omega | (intro z; cases z; done))))
local macro_rules | `(tactic| walk_at "go") => `(tactic| repeat (walk_at "u"))
local macro_rules | `(tactic| walk_at "u") => `(tactic| first | with_reducible refine c_bm2 ?_ | with_reducible refine c_m0 ?_ | with_reducible refine c_cmeth ?_)
/-! ### is_name of any value -/
section
variable {P : Program} {w : World} {K : PySem.W.Frag} {mg : Str → Option Value} {base : Heap}
/-- b is what is_name answers for v -/
def NmQ (K : PySem.W.Frag) (H : Hp) (v : V) (b : Bool) : Prop := (∃ z : Str, v = .str z ∧ z.length ≤ 1000 ∧ ((IsName z ∧ b = true) ∨ (9 ≤ z.length ∧ b = false) ∨ (z.length ≤ 8 ∧ (Txt.isascii z && (Txt.isalpha z && Txt.islower z)) = false ∧ b = false))) ∨ ∃ t, TyX K H v t ∧ PySem.W.kitOne K t (.type "str") = some false ∧ b = false
theorem NmQ.mono {H H' : Hp} {v : V} {b : Bool} (s : Same H H') (h : NmQ K H v b) : NmQ K H' v b := by
  rcases h with h | ⟨t, h1, h2⟩
  · exact .inl h
  · exact .inr ⟨t, tyx_mono s h1, h2⟩
def spIsNameW (K : PySem.W.Frag) : Sp := fun vs H Q _ => ∃ (v : V) (b : Bool), vs = [v] ∧ NmQ K H v b ∧ Q (.bl b) H
theorem ok_is_nameW (T : TX K mg) : FnOk P w K mg base CX0 1 T.f_is_name T.fd_is_name pIsName (spIsNameW K) := by
  refine T.d_is_name.F.ok scIsName (fun vs H Q E h => ?_) (fun cdv A outer s H vs Q E hr h => ?_)
  · obtain ⟨v, b, rfl, _⟩ := h
    rfl
  · obtain ⟨v, b, rfl, hv, q⟩ := h
    refine ⟨_, pss_cons (ps_if (PW.pt (pw_or (pt_not (pt_val (pe_callB (callIsi (K := K)) (by rfl) T.isinstance (by decide +kernel) (pa_cons (pv 0) (pa_cons (pe_bltn (v := .ty "str") (by rfl) T.str (by decide +kernel) rfl) pa_nil))))) (pw_or1 (pt_cmpR op_gt (pe_callB callLnS (by rfl) T.len (by decide +kernel) (pa_cons (pv 0) pa_nil)) (peGlobI rfl T.mLONGEST_NAME) (nomark _))))) (pss_one (ps_ret (pe_bl))) (pss_nil))
      (pss_one (ps_ret (pe_and (pe_m0 PySem.F.slot_str_isascii PySem.F.type_str_isascii mrAscii (pv 0)) (pe_and (pe_m0 PySem.F.slot_str_isalpha PySem.F.type_str_isalpha mrAlpha (pv 0)) (pe_one (pe_m0 PySem.F.slot_str_islower PySem.F.type_str_islower mrLower (pv 0))))))), ?_⟩
    walk_at "go"
    rcases hv with ⟨z, rfl, hl, hz⟩ | ⟨t, ty, kt, rfl⟩
    · refine c_isi (r := true) (ty_str z) (by decide +kernel) ?_
      walk_at "go"
      refine c_lnS (by omega) ?_
      walk_at "go"
      rcases hz with ⟨hz, rfl⟩ | ⟨h9, rfl⟩ | ⟨h8, hb, rfl⟩
      · have h1 := hz.lo
        have h8 := hz.hi
        walk_at "go"
        refine c_rMB hz.ascii ?_
        walk_at "go"
        refine c_rMB hz.alpha ?_
        walk_at "go"
        refine c_rMB hz.lower ?_
        exact q
      · walk_at "go"
        exact q
      · walk_at "go"
        refine c_rMB rfl ?_
        walk_at "go"
        cases h1 : Txt.isascii z with
        | false =>
          walk_at "go"
          exact q
        | true =>
          walk_at "go"
          refine c_rMB rfl ?_
          walk_at "go"
          cases h2 : Txt.isalpha z with
          | false =>
            walk_at "go"
            exact q
          | true =>
            walk_at "go"
            refine c_rMB rfl ?_
            rw [h1, h2] at hb
            have hb : Txt.islower z = false := hb
            rw [hb]
            exact q
    · refine c_isiN ty kt ?_
      walk_at "go"
      exact q
theorem c_inST {p : Addr} {a : Str} {ns : List Str} {H : Hp} {Q : VK} (e : SqL K H p (ns.map V.str) ∨ SqT K H p (ns.map V.str)) (h : Q (.bl (inV (.str a) (ns.map V.str))) H) : rIn K false (.str a) (.ref p) H Q := by
  refine ⟨p, _, rfl, e, rfl, ?_, ?_⟩
  · rw [List.all_eq_true]
    intro x hx
    obtain ⟨n, _, rfl⟩ := List.mem_map.mp hx
    rfl
  · rw [if_neg Bool.false_ne_true]
    exact h
/-- whether v is one of the names -/
def hasV (v : V) (ns : List Str) : Bool := match v with
  | .str _ => inV v (ns.map V.str)
  | _ => false
theorem hasV_str (z : Str) (ns : List Str) : hasV (.str z) ns = inV (.str z) (ns.map V.str) := rfl
theorem NmQ.str {H : Hp} {v : V} (h : NmQ K H v true) : ∃ z, v = .str z ∧ IsName z := by
  rcases h with ⟨z, rfl, _, ⟨h, _⟩ | ⟨_, h⟩ | ⟨_, _, h⟩⟩ | ⟨_, _, _, h⟩
  · exact ⟨z, rfl, h⟩
  · cases h
  · cases h
  · cases h
theorem NmQ.not {H : Hp} {v : V} {ns : List Str} (h : NmQ K H v false) (hn : ∀ z ∈ ns, IsName z) : hasV v ns = false := by
  cases v with
  | str z =>
    refine inV_names hn fun hz => ?_
    rcases h with ⟨y, e, _, ⟨_, h⟩ | ⟨h9, _⟩ | ⟨_, hb, _⟩⟩ | ⟨t, ty, kt, _⟩
    · cases h
    · cases e
      have := hz.hi
      omega
    · cases e
      rw [hz.ascii, hz.alpha, hz.lower] at hb
      cases hb
    · cases ty with
      | base b =>
        cases b
        have : PySem.W.kitOne K (.type "str") (.type "str") = some true := by
          unfold PySem.W.kitOne
          simp
        rw [this] at kt
        cases kt
  | _ => rfl
/-! ### History.of -/
def spHOf (K : PySem.W.Frag) (C : Addr) : Sp := fun vs H Q _ => ∃ (t : Addr) (ns : List Str), vs = [.ref C, .ref t] ∧ SqT K H t (ns.map V.str) ∧ (∀ z ∈ ns, IsName z) ∧ ns.length ≤ 1000 ∧ ∀ r H', Same H H' → HistAt K C H' r ns [] → Q (.ref r) H'
theorem ok_hof (T : TX K mg) : FnR P w K mg base CX0 5 T.f_History_of (spStar 1 (spHOf K T.C_History)) := by
  have G_History_init := ok_init (P := P) (w := w) (base := base) T
  refine T.F_History_of.ok (ps := ["cls"]) scHOf fun cdv A outer s H vs Q E hr h => ?_
  obtain ⟨t, ns, rfl, hT, hn, hl, q⟩ := h
  refine ⟨_, pss_one (ps_ret (pe_makeL (i := 0) T.mk_History G_History_init (hr.mono (by decide)) rfl (.inl rfl) T.b1_History_init T.v1_History_init pass0 (pa_cons (pv 1) pa_nil))), ?_⟩
  walk_at "go"
  refine c_makeL rfl ?_
  walk_at "go"
  exact c_mkH (fs := []) hT (T.t1_History_init _) hn (fun z hz => nomatch hz) (by simp; omega) (fun r H' s hR => q r H' s hR) rfl
def NmAll (K : PySem.W.Frag) (H : Hp) (xs : List V) : Prop := ∀ v ∈ xs, ∃ b, NmQ K H v b
theorem NmAll.nil {H : Hp} : NmAll K H [] := fun v hv => nomatch hv
theorem NmAll.cons {H : Hp} {v : V} {xs : List V} {b : Bool} (h : NmQ K H v b) (t : NmAll K H xs) : NmAll K H (v :: xs) := fun u hu => by
  rcases List.mem_cons.mp hu with rfl | hu
  · exact ⟨b, h⟩
  · exact t u hu
theorem NmAll.app {H : Hp} {xs ys : List V} (h : NmAll K H xs) (g : NmAll K H ys) : NmAll K H (xs ++ ys) := fun u hu => by
  rcases List.mem_append.mp hu with hu | hu
  · exact h u hu
  · exact g u hu
theorem NmAll.mono {H H' : Hp} {xs : List V} (s : Same H H') (h : NmAll K H xs) : NmAll K H' xs := fun u hu => by
  obtain ⟨b, hb⟩ := h u hu
  exact ⟨b, hb.mono s⟩
theorem nm_s {H : Hp} {z : Str} (h : nameB z = true) : NmQ K H (.str z) true := .inl ⟨z, rfl, Nat.le_trans (name_of h).hi (by decide), .inl ⟨name_of h, rfl⟩⟩
theorem nm_n {H : Hp} {z : Str} (h : z.length ≤ 8) (e : (Txt.isascii z && (Txt.isalpha z && Txt.islower z)) = false) : NmQ K H (.str z) false := .inl ⟨z, rfl, by omega, .inr (.inr ⟨h, e, rfl⟩)⟩
theorem nm_t {H : Hp} {v : V} {a : String} (ty : TyX K H v (.type a)) (e : kitB a "str" = some false) : NmQ K H v false := .inr ⟨_, ty, kit_ty e, rfl⟩
theorem ty_lst {H : Hp} {a : Addr} {xs : List V} (h : H a = some (.lst xs)) : TyX K H (.ref a) (.type "list") := .base (.lst h)
theorem ty_dK {H : Hp} {a : Addr} {kvs : List (Key × V)} (h : H a = some (.dK kvs)) : TyX K H (.ref a) (.type "dict") := .base (.dK h)
theorem ty_ins {H : Hp} {C a dx : Addr} {fs : List (Str × V)} (c : C8.InsC K C) (h : H a = some (.ins C dx fs)) : TyX K H (.ref a) (.ref C) := .base (TyOf.ins h c.cl c.ha c.hn c.htk c.hm)
theorem nm_x {H : Hp} {z : Str} (h : IsName z) : ∃ b, NmQ K H (.str (z ++ Str.ofString "x")) b := by
  have l1 : (Str.ofString "x").length = 1 := by decide +kernel
  have hl : (z ++ Str.ofString "x").length = z.length + 1 := by rw [PySem.Str.length_append, l1]
  have h8 := h.hi
  have hlo := h.lo
  by_cases e : z.length = 8
  · exact ⟨false, .inl ⟨_, rfl, by omega, .inr (.inl ⟨by omega, rfl⟩)⟩⟩
  · refine ⟨true, .inl ⟨_, rfl, by omega, .inl ⟨⟨by omega, by omega, fun c hc => ?_⟩, rfl⟩⟩⟩
    rw [PySem.Str.cps_append, Array.toList_append] at hc
    rcases List.mem_append.mp hc with hc | hc
    · exact h.low c hc
    · have : c = 120 := by
        have e : (Str.ofString "x").cps.toList = [120] := by decide +kernel
        rw [e] at hc
        simpa using hc
      omega
/-- values that are none of C's -/
def OthAll (K : PySem.W.Frag) (C : Addr) (H : Hp) (xs : List V) : Prop := ∀ v ∈ xs, ∃ t, TyX K H v t ∧ PySem.W.kitOne K t (.ref C) = some false
theorem OthAll.nil {C : Addr} {H : Hp} : OthAll K C H [] := fun v hv => nomatch hv
theorem OthAll.cons {C : Addr} {H : Hp} {v : V} {xs : List V} {t : Value} (h : TyX K H v t) (k : PySem.W.kitOne K t (.ref C) = some false) (g : OthAll K C H xs) : OthAll K C H (v :: xs) := fun u hu => by
  rcases List.mem_cons.mp hu with rfl | hu
  · exact ⟨t, h, k⟩
  · exact g u hu
theorem OthAll.app {C : Addr} {H : Hp} {xs ys : List V} (h : OthAll K C H xs) (g : OthAll K C H ys) : OthAll K C H (xs ++ ys) := fun u hu => by
  rcases List.mem_append.mp hu with hu | hu
  · exact h u hu
  · exact g u hu
theorem OthAll.mono {C : Addr} {H H' : Hp} {xs : List V} (s : Same H H') (h : OthAll K C H xs) : OthAll K C H' xs := fun u hu => by
  obtain ⟨t, ty, k⟩ := h u hu
  exact ⟨t, tyx_mono s ty, k⟩
theorem c_hof {C : Addr} {H : Hp} {Q : VK} {E : XK} {z : Str} (hz : IsName z) (q : ∀ r H', Same H H' → HistAt K C H' r [z] [] → Q (.ref r) H') : spStar 1 (spHOf K C) [.ref C, .str z] H Q E :=
  ⟨[.ref C], [.str z], rfl, rfl, sz (by simp), fun p np => ⟨p, [z], rfl, .inl (.inl upd_same), fun y hy => by rw [List.mem_singleton.mp hy]; exact hz, by simp, fun r H' s hR => q r H' ((same_new np).trans s) hR⟩⟩
theorem bls_f : ∀ {xs : List V}, (∀ (i : Nat) y, xs[i]? = some y → y = V.bl false) → ∃ bs : List Bool, xs = bs.map V.bl ∧ bs.any id = false
  | [], _ => ⟨[], rfl, rfl⟩
  | x :: r, h => by
    obtain ⟨bs, rfl, hb⟩ := bls_f fun i y e => h (i + 1) y e
    obtain rfl := h 0 x rfl
    exact ⟨false :: bs, rfl, by simpa using hb⟩
end
end Und
namespace Und
open PySem PySem.Spec PyProof.Rows L2
local macro_rules | `(tactic| walk_at "side") => `(tactic| first | decide | omega | exact ⟨by omega, by omega⟩ | (show (0 : Int) < _; omega) | (exact Or.inl ⟨by omega, by omega⟩) | (exact Or.inr ⟨by omega, by omega⟩) | (exact sz (by simp)) | (exact szl (by simp)))
local macro_rules | `(tactic| walk_at "u") => `(tactic| first
  | with_reducible refine c_seq ?_ | with_reducible refine c_next ?_ | with_reducible refine c_yes ?_ | with_reducible refine c_asg ?_ | with_reducible refine c_asg2 ?_ | with_reducible refine c_par ?_ | with_reducible refine c_two ?_ | with_reducible refine c_g ?_ | with_reducible refine c_gsub ?_ | with_reducible refine c_gcons ?_ | with_reducible refine c_gnil ?_ | with_reducible refine c_ret ?_ | with_reducible refine c_drop ?_
  | ((with_reducible refine c_var (v := ?v) ?h ?_); (case h => rfl)) | with_reducible refine c_c ?_ | with_reducible refine c_op ?_ | with_reducible refine c_un ?_ | with_reducible refine c_I0 ?_
  | ((with_reducible refine c_I ?h ?_); (case h => walk_at "side"))
  | ((with_reducible refine c_eq ?h ?_); (case h => rfl)) | ((with_reducible refine c_neq ?h ?_); (case h => rfl)) | with_reducible refine c_test ?_ | with_reducible refine c_B ?_ | with_reducible refine c_bl ?_ | with_reducible refine c_int ?_ | with_reducible refine c_ifs ?_ | with_reducible refine c_ife ?_
  | with_reducible refine c_andV ?_ | with_reducible refine c_orV ?_ | with_reducible refine c_notV ?_ | with_reducible refine c_and ?_ | with_reducible refine c_or ?_ | with_reducible refine c_not ?_
  | with_reducible refine c_call ?_ | with_reducible refine c_cb ?_ | with_reducible refine c_nil ?_ | with_reducible refine c_cons ?_
  | with_reducible refine c_tup ?_ | with_reducible refine c_lst ?_ | with_reducible refine c_sl ?_ | with_reducible refine c_nop ?_ | with_reducible refine c_part ?_ | with_reducible refine c_fld ?_
  | with_reducible refine c_for ?_ | with_reducible refine c_ilist ?_ | with_reducible refine c_itup ?_ | with_reducible refine c_irng1 ?_ | with_reducible refine c_lc ?_
  | with_reducible refine c_m1 ?_ | with_reducible refine c_isS ?_ | with_reducible refine c_chain ?_ | with_reducible refine c_str ?_ | with_reducible refine c_make ?_ | with_reducible refine c_meth ?_ | with_reducible refine c_prop ?_ | with_reducible refine c_sfld ?_ | with_reducible refine c_ienumT ?_ | with_reducible refine iteT ?_ | with_reducible refine iteF ?_ | with_reducible refine iteNT ?_ | with_reducible refine iteNF ?_
  | ((with_reducible refine iteDT ?h ?_); (case h => first | rfl | omega)) | ((with_reducible refine iteDF ?h ?_); (case h => first | omega | (intro z; cases z; done))) | ((with_reducible refine iteNDT ?h ?_); (case h => first | rfl | omega)) | ((with_reducible refine iteNDF ?h ?_); (case h => first | omega | (intro z; cases z; done))))
local macro_rules | `(tactic| walk_at "go") => `(tactic| repeat (walk_at "u"))
section
variable {P : Program} {w : World} {K : PySem.W.Frag} {mg : Str → Option Value} {base : Heap}
theorem ok_InvalidName (T : TX K mg) : FnOk P w K mg base CX0 1 T.f_InvalidName_init T.fd_InvalidName_init pEInvalidName (spErr T.C_InvalidName "name") := by
  refine funD_ok T.F_InvalidName_init scEInvalidName (fun vs H Q E h => ?_) (fun cdv A outer s H vs Q E hr h => ?_)
  · obtain ⟨a, v, rfl, _⟩ := h
    rfl
  · obtain ⟨a, v, rfl, e, q⟩ := h
    refine ⟨_, pss_one (psSetE (K := K) (pv 0) (pv 1)), ?_⟩
    (
      walk_at "go"
      refine c_setE ?_
      walk_at "go"
      exact ⟨a, _, _, _, _, _, _, rfl, T.ec_InvalidName, famV, T.nf_InvalidName, e, q⟩)
theorem ok_InvalidNames (T : TX K mg) : FnOk P w K mg base CX0 1 T.f_InvalidNames_init T.fd_InvalidNames_init pEInvalidNames (spErr T.C_InvalidNames "index") := by
  refine funD_ok T.F_InvalidNames_init scEInvalidNames (fun vs H Q E h => ?_) (fun cdv A outer s H vs Q E hr h => ?_)
  · obtain ⟨a, v, rfl, _⟩ := h
    rfl
  · obtain ⟨a, v, rfl, e, q⟩ := h
    refine ⟨_, pss_one (psSetE (K := K) (pv 0) (pv 1)), ?_⟩
    (
      walk_at "go"
      refine c_setE ?_
      walk_at "go"
      exact ⟨a, _, _, _, _, _, _, rfl, T.ec_InvalidNames, famV, T.nf_InvalidNames, e, q⟩)
theorem ok_InvalidAmount (T : TX K mg) : FnOk P w K mg base CX0 1 T.f_InvalidAmount_init T.fd_InvalidAmount_init pEInvalidAmount (spErr T.C_InvalidAmount "amount") := by
  refine funD_ok T.F_InvalidAmount_init scEInvalidAmount (fun vs H Q E h => ?_) (fun cdv A outer s H vs Q E hr h => ?_)
  · obtain ⟨a, v, rfl, _⟩ := h
    rfl
  · obtain ⟨a, v, rfl, e, q⟩ := h
    refine ⟨_, pss_one (psSetE (K := K) (pv 0) (pv 1)), ?_⟩
    (
      walk_at "go"
      refine c_setE ?_
      walk_at "go"
      exact ⟨a, _, _, _, _, _, _, rfl, T.ec_InvalidAmount, famV, T.nf_InvalidAmount, e, q⟩)
theorem ok_InvalidProgram (T : TX K mg) : FnOk P w K mg base CX0 1 T.f_InvalidProgram_init T.fd_InvalidProgram_init pEInvalidProgram (spErr T.C_InvalidProgram "index") := by
  refine funD_ok T.F_InvalidProgram_init scEInvalidProgram (fun vs H Q E h => ?_) (fun cdv A outer s H vs Q E hr h => ?_)
  · obtain ⟨a, v, rfl, _⟩ := h
    rfl
  · obtain ⟨a, v, rfl, e, q⟩ := h
    refine ⟨_, pss_one (psSetE (K := K) (pv 0) (pv 1)), ?_⟩
    (
      walk_at "go"
      refine c_setE ?_
      walk_at "go"
      exact ⟨a, _, _, _, _, _, _, rfl, T.ec_InvalidProgram, famV, T.nf_InvalidProgram, e, q⟩)
theorem ok_InvalidText (T : TX K mg) : FnOk P w K mg base CX0 1 T.f_InvalidText_init T.fd_InvalidText_init pEInvalidText (spErr T.C_InvalidText "text") := by
  refine funD_ok T.F_InvalidText_init scEInvalidText (fun vs H Q E h => ?_) (fun cdv A outer s H vs Q E hr h => ?_)
  · obtain ⟨a, v, rfl, _⟩ := h
    rfl
  · obtain ⟨a, v, rfl, e, q⟩ := h
    refine ⟨_, pss_one (psSetE (K := K) (pv 0) (pv 1)), ?_⟩
    (
      walk_at "go"
      refine c_setE ?_
      walk_at "go"
      exact ⟨a, _, _, _, _, _, _, rfl, T.ec_InvalidText, famV, T.nf_InvalidText, e, q⟩)
theorem ok_InvalidLength (T : TX K mg) : FnOk P w K mg base CX0 1 T.f_InvalidLength_init T.fd_InvalidLength_init pEInvalidLength (spErr T.C_InvalidLength "length") := by
  refine funD_ok T.F_InvalidLength_init scEInvalidLength (fun vs H Q E h => ?_) (fun cdv A outer s H vs Q E hr h => ?_)
  · obtain ⟨a, v, rfl, _⟩ := h
    rfl
  · obtain ⟨a, v, rfl, e, q⟩ := h
    refine ⟨_, pss_one (psSetE (K := K) (pv 0) (pv 1)), ?_⟩
    (
      walk_at "go"
      refine c_setE ?_
      walk_at "go"
      exact ⟨a, _, _, _, _, _, _, rfl, T.ec_InvalidLength, famV, T.nf_InvalidLength, e, q⟩)
theorem ok_InvalidCount (T : TX K mg) : FnOk P w K mg base CX0 1 T.f_InvalidCount_init T.fd_InvalidCount_init pEInvalidCount (spErr T.C_InvalidCount "count") := by
  refine funD_ok T.F_InvalidCount_init scEInvalidCount (fun vs H Q E h => ?_) (fun cdv A outer s H vs Q E hr h => ?_)
  · obtain ⟨a, v, rfl, _⟩ := h
    rfl
  · obtain ⟨a, v, rfl, e, q⟩ := h
    refine ⟨_, pss_one (psSetE (K := K) (pv 0) (pv 1)), ?_⟩
    (
      walk_at "go"
      refine c_setE ?_
      walk_at "go"
      exact ⟨a, _, _, _, _, _, _, rfl, T.ec_InvalidCount, famV, T.nf_InvalidCount, e, q⟩)
theorem ok_InvalidChanges (T : TX K mg) : FnOk P w K mg base CX0 1 T.f_InvalidChanges_init T.fd_InvalidChanges_init pEInvalidChanges (spErr T.C_InvalidChanges "index") := by
  refine funD_ok T.F_InvalidChanges_init scEInvalidChanges (fun vs H Q E h => ?_) (fun cdv A outer s H vs Q E hr h => ?_)
  · obtain ⟨a, v, rfl, _⟩ := h
    rfl
  · obtain ⟨a, v, rfl, e, q⟩ := h
    refine ⟨_, pss_one (psSetE (K := K) (pv 0) (pv 1)), ?_⟩
    (
      walk_at "go"
      refine c_setE ?_
      walk_at "go"
      exact ⟨a, _, _, _, _, _, _, rfl, T.ec_InvalidChanges, famV, T.nf_InvalidChanges, e, q⟩)
theorem ok_InvalidObservations (T : TX K mg) : FnOk P w K mg base CX0 1 T.f_InvalidObservations_init T.fd_InvalidObservations_init pEInvalidObservations (spErr T.C_InvalidObservations "index") := by
  refine funD_ok T.F_InvalidObservations_init scEInvalidObservations (fun vs H Q E h => ?_) (fun cdv A outer s H vs Q E hr h => ?_)
  · obtain ⟨a, v, rfl, _⟩ := h
    rfl
  · obtain ⟨a, v, rfl, e, q⟩ := h
    refine ⟨_, pss_one (psSetE (K := K) (pv 0) (pv 1)), ?_⟩
    (
      walk_at "go"
      refine c_setE ?_
      walk_at "go"
      exact ⟨a, _, _, _, _, _, _, rfl, T.ec_InvalidObservations, famV, T.nf_InvalidObservations, e, q⟩)
theorem ok_InvalidLimit (T : TX K mg) : FnOk P w K mg base CX0 1 T.f_InvalidLimit_init T.fd_InvalidLimit_init pEInvalidLimit (spErr T.C_InvalidLimit "value") := by
  refine funD_ok T.F_InvalidLimit_init scEInvalidLimit (fun vs H Q E h => ?_) (fun cdv A outer s H vs Q E hr h => ?_)
  · obtain ⟨a, v, rfl, _⟩ := h
    rfl
  · obtain ⟨a, v, rfl, e, q⟩ := h
    refine ⟨_, pss_one (psSetE (K := K) (pv 0) (pv 1)), ?_⟩
    (
      walk_at "go"
      refine c_setE ?_
      walk_at "go"
      exact ⟨a, _, _, _, _, _, _, rfl, T.ec_InvalidLimit, famV, T.nf_InvalidLimit, e, q⟩)
theorem ok_InvalidLine (T : TX K mg) : FnOk P w K mg base CX0 1 T.f_InvalidLine_init T.fd_InvalidLine_init pEInvalidLine (spErr T.C_InvalidLine "text") := by
  refine funD_ok T.F_InvalidLine_init scEInvalidLine (fun vs H Q E h => ?_) (fun cdv A outer s H vs Q E hr h => ?_)
  · obtain ⟨a, v, rfl, _⟩ := h
    rfl
  · obtain ⟨a, v, rfl, e, q⟩ := h
    refine ⟨_, pss_one (psSetE (K := K) (pv 0) (pv 1)), ?_⟩
    (
      walk_at "go"
      refine c_setE ?_
      walk_at "go"
      exact ⟨a, _, _, _, _, _, _, rfl, T.ec_InvalidLine, famV, T.nf_InvalidLine, e, q⟩)
theorem ok_NotAHistory (T : TX K mg) : FnOk P w K mg base CX0 1 T.f_NotAHistory_init T.fd_NotAHistory_init pENotAHistory (spErr T.C_NotAHistory "value") := by
  refine funD_ok T.F_NotAHistory_init scENotAHistory (fun vs H Q E h => ?_) (fun cdv A outer s H vs Q E hr h => ?_)
  · obtain ⟨a, v, rfl, _⟩ := h
    rfl
  · obtain ⟨a, v, rfl, e, q⟩ := h
    refine ⟨_, pss_one (psSetE (K := K) (pv 0) (pv 1)), ?_⟩
    (
      walk_at "go"
      refine c_setE ?_
      walk_at "go"
      exact ⟨a, _, _, _, _, _, _, rfl, T.ec_NotAHistory, famV, T.nf_NotAHistory, e, q⟩)
theorem ok_NotAProgram (T : TX K mg) : FnOk P w K mg base CX0 1 T.f_NotAProgram_init T.fd_NotAProgram_init pENotAProgram (spErr T.C_NotAProgram "value") := by
  refine funD_ok T.F_NotAProgram_init scENotAProgram (fun vs H Q E h => ?_) (fun cdv A outer s H vs Q E hr h => ?_)
  · obtain ⟨a, v, rfl, _⟩ := h
    rfl
  · obtain ⟨a, v, rfl, e, q⟩ := h
    refine ⟨_, pss_one (psSetE (K := K) (pv 0) (pv 1)), ?_⟩
    (
      walk_at "go"
      refine c_setE ?_
      walk_at "go"
      exact ⟨a, _, _, _, _, _, _, rfl, T.ec_NotAProgram, famV, T.nf_NotAProgram, e, q⟩)
theorem ok_NotAnEffect (T : TX K mg) : FnOk P w K mg base CX0 1 T.f_NotAnEffect_init T.fd_NotAnEffect_init pENotAnEffect (spErr T.C_NotAnEffect "value") := by
  refine funD_ok T.F_NotAnEffect_init scENotAnEffect (fun vs H Q E h => ?_) (fun cdv A outer s H vs Q E hr h => ?_)
  · obtain ⟨a, v, rfl, _⟩ := h
    rfl
  · obtain ⟨a, v, rfl, e, q⟩ := h
    refine ⟨_, pss_one (psSetE (K := K) (pv 0) (pv 1)), ?_⟩
    (
      walk_at "go"
      refine c_setE ?_
      walk_at "go"
      exact ⟨a, _, _, _, _, _, _, rfl, T.ec_NotAnEffect, famV, T.nf_NotAnEffect, e, q⟩)
theorem ok_TooManyDiscarded (T : TX K mg) : FnOk P w K mg base CX0 1 T.f_TooManyDiscarded_init T.fd_TooManyDiscarded_init pETooManyDiscarded (spErr T.C_TooManyDiscarded "count") := by
  refine funD_ok T.F_TooManyDiscarded_init scETooManyDiscarded (fun vs H Q E h => ?_) (fun cdv A outer s H vs Q E hr h => ?_)
  · obtain ⟨a, v, rfl, _⟩ := h
    rfl
  · obtain ⟨a, v, rfl, e, q⟩ := h
    refine ⟨_, pss_one (psSetE (K := K) (pv 0) (pv 1)), ?_⟩
    (
      walk_at "go"
      refine c_setE ?_
      walk_at "go"
      exact ⟨a, _, _, _, _, _, _, rfl, T.ec_TooManyDiscarded, famA, T.nf_TooManyDiscarded, e, q⟩)
end
end Und
namespace Und
open PySem PySem.Spec PyProof.Rows L2
local macro_rules | `(tactic| walk_at "side") => `(tactic| first | decide | omega | exact ⟨by omega, by omega⟩ | (show (0 : Int) < _; omega) | (exact Or.inl ⟨by omega, by omega⟩) | (exact Or.inr ⟨by omega, by omega⟩) | (exact sz (by simp)) | (exact szl (by simp)))
local macro_rules | `(tactic| walk_at "u") => `(tactic| first
  | with_reducible refine c_seq ?_ | with_reducible refine c_next ?_ | with_reducible refine c_yes ?_ | with_reducible refine c_asg ?_ | with_reducible refine c_asg2 ?_ | with_reducible refine c_par ?_ | with_reducible refine c_two ?_ | with_reducible refine c_g ?_ | with_reducible refine c_gsub ?_ | with_reducible refine c_gcons ?_ | with_reducible refine c_gnil ?_ | with_reducible refine c_ret ?_ | with_reducible refine c_drop ?_
  | ((with_reducible refine c_var (v := ?v) ?h ?_); (case h => rfl)) | with_reducible refine c_c ?_ | with_reducible refine c_op ?_ | with_reducible refine c_un ?_ | with_reducible refine c_I0 ?_
  | ((with_reducible refine c_I ?h ?_); (case h => walk_at "side"))
  | ((with_reducible refine c_eq ?h ?_); (case h => rfl)) | ((with_reducible refine c_neq ?h ?_); (case h => rfl)) | with_reducible refine c_test ?_ | with_reducible refine c_B ?_ | with_reducible refine c_bl ?_ | with_reducible refine c_int ?_ | with_reducible refine c_ifs ?_ | with_reducible refine c_ife ?_
  | with_reducible refine c_andV ?_ | with_reducible refine c_orV ?_ | with_reducible refine c_notV ?_ | with_reducible refine c_and ?_ | with_reducible refine c_or ?_ | with_reducible refine c_not ?_
  | with_reducible refine c_call ?_ | with_reducible refine c_cb ?_ | with_reducible refine c_nil ?_ | with_reducible refine c_cons ?_
  | with_reducible refine c_tup ?_ | with_reducible refine c_lst ?_ | with_reducible refine c_sl ?_ | with_reducible refine c_nop ?_ | with_reducible refine c_part ?_ | with_reducible refine c_fld ?_
  | with_reducible refine c_for ?_ | with_reducible refine c_ilist ?_ | with_reducible refine c_itup ?_ | with_reducible refine c_irng1 ?_ | with_reducible refine c_lc ?_
  | with_reducible refine c_m1 ?_ | with_reducible refine c_isS ?_ | with_reducible refine c_chain ?_ | with_reducible refine c_str ?_ | with_reducible refine c_make ?_ | with_reducible refine c_meth ?_ | with_reducible refine c_prop ?_ | with_reducible refine c_sfld ?_ | with_reducible refine c_ienumT ?_ | with_reducible refine iteT ?_ | with_reducible refine iteF ?_ | with_reducible refine iteNT ?_ | with_reducible refine iteNF ?_
  | ((with_reducible refine iteDT ?h ?_); (case h => first | rfl | omega)) | ((with_reducible refine iteDF ?h ?_); (case h => first | omega | (intro z; cases z; done))) | ((with_reducible refine iteNDT ?h ?_); (case h => first | rfl | omega)) | ((with_reducible refine iteNDF ?h ?_); (case h => first | omega | (intro z; cases z; done))))
local macro_rules | `(tactic| walk_at "go") => `(tactic| repeat (walk_at "u"))
theorem c_bmE {K' : PySem.W.Frag} {T : String} {r : V → List V → Hp → VK → Prop} {to : TE} {t : TA} {σ : L2.St} {H : Hp} {Q : VK} (h : to σ H fun x H1 => tyV K' T x H1 ∧ t σ H1 fun xs H2 => r x xs H2 Q) : tBM K' T r to t σ H Q := h
theorem c_appE {a : Addr} {xs : List V} {y : V} {H : Hp} {Q : VK} (e : H a = some (.lst xs)) (z : xs.length < 100000) (h : Q .non (upd H a (.lst (xs ++ [y])))) : rAppend (.ref a) [y] H Q := ⟨a, xs, y, rfl, rfl, e, szl z, h⟩
theorem tyv_lst {K : PySem.W.Frag} {a : Addr} {xs : List V} {H : Hp} (e : H a = some (.lst xs)) : tyV K "list" (.ref a) H := .inl ⟨rfl, xs, .inl (.inl e)⟩
local macro_rules | `(tactic| walk_at "u") => `(tactic| with_reducible refine c_bmE ?_)
section
variable {P : Program} {w : World} {K : PySem.W.Frag} {mg : Str → Option Value} {base : Heap}
def errL (T : TX K mg) : List Addr := [T.C_InvalidName, T.C_InvalidNames, T.C_InvalidAmount, T.C_InvalidProgram, T.C_InvalidText, T.C_InvalidLength, T.C_InvalidCount, T.C_InvalidChanges, T.C_InvalidObservations, T.C_InvalidLimit, T.C_InvalidLine, T.C_NotAHistory, T.C_NotAProgram, T.C_NotAnEffect, T.C_CannotRevert, T.C_Busy, T.C_TooManyDiscarded, T.C_UndoError, T.C_StateError, T.C_LimitError]
theorem cxL (T : TX K mg) : ∀ (i : Nat) (D : Addr), (errL T)[i]? = some D → ClsX K D := fun i D e => by
  have m := List.mem_of_getElem? e
  simp only [errL, List.mem_cons, List.not_mem_nil, or_false] at m
  rcases m with rfl | rfl | rfl | rfl | rfl | rfl | rfl | rfl | rfl | rfl | rfl | rfl | rfl | rfl | rfl | rfl | rfl | rfl | rfl | rfl
  · exact T.ec_InvalidName.clsx
  · exact T.ec_InvalidNames.clsx
  · exact T.ec_InvalidAmount.clsx
  · exact T.ec_InvalidProgram.clsx
  · exact T.ec_InvalidText.clsx
  · exact T.ec_InvalidLength.clsx
  · exact T.ec_InvalidCount.clsx
  · exact T.ec_InvalidChanges.clsx
  · exact T.ec_InvalidObservations.clsx
  · exact T.ec_InvalidLimit.clsx
  · exact T.ec_InvalidLine.clsx
  · exact T.ec_NotAHistory.clsx
  · exact T.ec_NotAProgram.clsx
  · exact T.ec_NotAnEffect.clsx
  · exact T.ec_CannotRevert.clsx
  · exact T.ec_Busy.clsx
  · exact T.ec_TooManyDiscarded.clsx
  · exact T.cx_UndoError
  · exact T.cx_StateError
  · exact T.cx_LimitError
theorem ek_InvalidName (T : TX K mg) : ErrK K (errL T) T.C_InvalidName 0 := errK T.nd_err T.ec_InvalidName famV (fun a => rfl) (by decide) rfl rfl (cxL T) (by decide +kernel) (by decide +kernel) (by decide +kernel)
theorem ek_InvalidNames (T : TX K mg) : ErrK K (errL T) T.C_InvalidNames 1 := errK T.nd_err T.ec_InvalidNames famV (fun a => rfl) (by decide) rfl rfl (cxL T) (by decide +kernel) (by decide +kernel) (by decide +kernel)
theorem ek_InvalidAmount (T : TX K mg) : ErrK K (errL T) T.C_InvalidAmount 2 := errK T.nd_err T.ec_InvalidAmount famV (fun a => rfl) (by decide) rfl rfl (cxL T) (by decide +kernel) (by decide +kernel) (by decide +kernel)
theorem ek_InvalidProgram (T : TX K mg) : ErrK K (errL T) T.C_InvalidProgram 3 := errK T.nd_err T.ec_InvalidProgram famV (fun a => rfl) (by decide) rfl rfl (cxL T) (by decide +kernel) (by decide +kernel) (by decide +kernel)
theorem ek_InvalidText (T : TX K mg) : ErrK K (errL T) T.C_InvalidText 4 := errK T.nd_err T.ec_InvalidText famV (fun a => rfl) (by decide) rfl rfl (cxL T) (by decide +kernel) (by decide +kernel) (by decide +kernel)
theorem ek_InvalidLength (T : TX K mg) : ErrK K (errL T) T.C_InvalidLength 5 := errK T.nd_err T.ec_InvalidLength famV (fun a => rfl) (by decide) rfl rfl (cxL T) (by decide +kernel) (by decide +kernel) (by decide +kernel)
theorem ek_InvalidCount (T : TX K mg) : ErrK K (errL T) T.C_InvalidCount 6 := errK T.nd_err T.ec_InvalidCount famV (fun a => rfl) (by decide) rfl rfl (cxL T) (by decide +kernel) (by decide +kernel) (by decide +kernel)
theorem ek_InvalidChanges (T : TX K mg) : ErrK K (errL T) T.C_InvalidChanges 7 := errK T.nd_err T.ec_InvalidChanges famV (fun a => rfl) (by decide) rfl rfl (cxL T) (by decide +kernel) (by decide +kernel) (by decide +kernel)
theorem ek_InvalidObservations (T : TX K mg) : ErrK K (errL T) T.C_InvalidObservations 8 := errK T.nd_err T.ec_InvalidObservations famV (fun a => rfl) (by decide) rfl rfl (cxL T) (by decide +kernel) (by decide +kernel) (by decide +kernel)
theorem ek_InvalidLimit (T : TX K mg) : ErrK K (errL T) T.C_InvalidLimit 9 := errK T.nd_err T.ec_InvalidLimit famV (fun a => rfl) (by decide) rfl rfl (cxL T) (by decide +kernel) (by decide +kernel) (by decide +kernel)
theorem ek_InvalidLine (T : TX K mg) : ErrK K (errL T) T.C_InvalidLine 10 := errK T.nd_err T.ec_InvalidLine famV (fun a => rfl) (by decide) rfl rfl (cxL T) (by decide +kernel) (by decide +kernel) (by decide +kernel)
theorem ek_NotAHistory (T : TX K mg) : ErrK K (errL T) T.C_NotAHistory 11 := errK T.nd_err T.ec_NotAHistory famV (fun a => rfl) (by decide) rfl rfl (cxL T) (by decide +kernel) (by decide +kernel) (by decide +kernel)
theorem ek_NotAProgram (T : TX K mg) : ErrK K (errL T) T.C_NotAProgram 12 := errK T.nd_err T.ec_NotAProgram famV (fun a => rfl) (by decide) rfl rfl (cxL T) (by decide +kernel) (by decide +kernel) (by decide +kernel)
theorem ek_NotAnEffect (T : TX K mg) : ErrK K (errL T) T.C_NotAnEffect 13 := errK T.nd_err T.ec_NotAnEffect famV (fun a => rfl) (by decide) rfl rfl (cxL T) (by decide +kernel) (by decide +kernel) (by decide +kernel)
theorem ek_CannotRevert (T : TX K mg) : ErrK K (errL T) T.C_CannotRevert 14 := errK T.nd_err T.ec_CannotRevert famL (fun a => rfl) (by decide) rfl rfl (cxL T) (by decide +kernel) (by decide +kernel) (by decide +kernel)
theorem ek_Busy (T : TX K mg) : ErrK K (errL T) T.C_Busy 15 := errK T.nd_err T.ec_Busy famL (fun a => rfl) (by decide) rfl rfl (cxL T) (by decide +kernel) (by decide +kernel) (by decide +kernel)
theorem ek_TooManyDiscarded (T : TX K mg) : ErrK K (errL T) T.C_TooManyDiscarded 16 := errK T.nd_err T.ec_TooManyDiscarded famA (fun a => rfl) (by decide) rfl rfl (cxL T) (by decide +kernel) (by decide +kernel) (by decide +kernel)
theorem c_catE {a b : Addr} {xs zs : List V} {H : Hp} {Q : VK} (e : H a = some (.lst xs)) (e2 : H b = some (.lst zs)) (z : xs.length + zs.length ≤ 100000) (h : ∀ p H2, H p = none → Same H H2 → H2 p = some (.lst (xs ++ zs)) → Q (.ref p) H2) : rCat (.ref a) (.ref b) H Q := ⟨a, b, xs, zs, rfl, rfl, e, e2, sz z, fun p np => h p _ np (same_new np) upd_same⟩
def spError (T : TX K mg) : Sp := fun vs H Q _ => ∃ (a C : Addr) (fs : List (Str × V)) (j : Nat), vs = [.ref a] ∧ ErrAt H a C fs ∧ ErrK K (errL T) C j ∧ ∀ H', Same H H' → Q (.int (j : Int)) H'
abbrev foundJ (j : Nat) : List V := [V.bl (decide (0 = j)), V.bl (decide (1 = j)), V.bl (decide (2 = j)), V.bl (decide (3 = j)), V.bl (decide (4 = j)), V.bl (decide (5 = j)), V.bl (decide (6 = j)), V.bl (decide (7 = j)), V.bl (decide (8 = j)), V.bl (decide (9 = j)), V.bl (decide (10 = j)), V.bl (decide (11 = j)), V.bl (decide (12 = j)), V.bl (decide (13 = j)), V.bl (decide (14 = j)), V.bl (decide (15 = j)), V.bl (decide (16 = j))]
theorem fj_cnt : ∀ j, j < 17 → ((foundJ j).countP fun z => eqV z (.bl true)) = 1 := by decide
theorem fj_at : ∀ j, j < 17 → (foundJ j)[j]? = some (V.bl true) := by decide
theorem fj_no : ∀ j, j < 17 → ∀ m, m < j → ((foundJ j)[m]?.all fun z => !eqV z (.bl true)) = true := by decide
theorem ok_error (T : TX K mg) : FnQ P w K mg base 2 T.f_law_error T.fd_law_error pError (spError T) := by
  refine okQ T.d_law_error.F scError (fun vs H Q E h => ?_) (fun cdv A outer s H vs Q E g hr h => ?_)
  · obtain ⟨a, C, fs, j, rfl, _⟩ := h
    rfl
  · obtain ⟨a, C, fs, j, rfl, hE, EK, q⟩ := h
    obtain ⟨refs, B, newId, initId, bmB, hC, hF⟩ := EK.e
    have hj := EK.lt
    refine ⟨_, pss_cons (ps_set (i := 1) scError.nd rfl (.inl rfl) (pe_lst (pa_cons (pe_callB (callIsErr (K := K)) (by rfl) T.isinstance (by decide +kernel) (pa_cons (pv 0) (pa_cons (pe_glob (v := .ref T.C_InvalidName) rfl T.m_InvalidName rfl) pa_nil))) (pa_cons (pe_callB (callIsErr (K := K)) (by rfl) T.isinstance (by decide +kernel) (pa_cons (pv 0) (pa_cons (pe_glob (v := .ref T.C_InvalidNames) rfl T.m_InvalidNames rfl) pa_nil))) (pa_cons (pe_callB (callIsErr (K := K)) (by rfl) T.isinstance (by decide +kernel) (pa_cons (pv 0) (pa_cons (pe_glob (v := .ref T.C_InvalidAmount) rfl T.m_InvalidAmount rfl) pa_nil))) pa_nil)))))
      (pss_cons (ps_set (i := 1) scError.nd rfl (.inl rfl) (pe_op op_cat (pv 1) (pe_lst (pa_cons (pe_callB (callIsErr (K := K)) (by rfl) T.isinstance (by decide +kernel) (pa_cons (pv 0) (pa_cons (pe_glob (v := .ref T.C_InvalidProgram) rfl T.m_InvalidProgram rfl) pa_nil))) (pa_cons (pe_callB (callIsErr (K := K)) (by rfl) T.isinstance (by decide +kernel) (pa_cons (pv 0) (pa_cons (pe_glob (v := .ref T.C_InvalidText) rfl T.m_InvalidText rfl) pa_nil))) (pa_cons (pe_callB (callIsErr (K := K)) (by rfl) T.isinstance (by decide +kernel) (pa_cons (pv 0) (pa_cons (pe_glob (v := .ref T.C_InvalidLength) rfl T.m_InvalidLength rfl) pa_nil))) pa_nil))))))
      (pss_cons (ps_set (i := 1) scError.nd rfl (.inl rfl) (pe_op op_cat (pv 1) (pe_lst (pa_cons (pe_callB (callIsErr (K := K)) (by rfl) T.isinstance (by decide +kernel) (pa_cons (pv 0) (pa_cons (pe_glob (v := .ref T.C_InvalidCount) rfl T.m_InvalidCount rfl) pa_nil))) (pa_cons (pe_callB (callIsErr (K := K)) (by rfl) T.isinstance (by decide +kernel) (pa_cons (pv 0) (pa_cons (pe_glob (v := .ref T.C_InvalidChanges) rfl T.m_InvalidChanges rfl) pa_nil))) (pa_cons (pe_callB (callIsErr (K := K)) (by rfl) T.isinstance (by decide +kernel) (pa_cons (pv 0) (pa_cons (pe_glob (v := .ref T.C_InvalidObservations) rfl T.m_InvalidObservations rfl) pa_nil))) pa_nil))))))
      (pss_cons (ps_set (i := 1) scError.nd rfl (.inl rfl) (pe_op op_cat (pv 1) (pe_lst (pa_cons (pe_callB (callIsErr (K := K)) (by rfl) T.isinstance (by decide +kernel) (pa_cons (pv 0) (pa_cons (pe_glob (v := .ref T.C_InvalidLimit) rfl T.m_InvalidLimit rfl) pa_nil))) (pa_cons (pe_callB (callIsErr (K := K)) (by rfl) T.isinstance (by decide +kernel) (pa_cons (pv 0) (pa_cons (pe_glob (v := .ref T.C_InvalidLine) rfl T.m_InvalidLine rfl) pa_nil))) (pa_cons (pe_callB (callIsErr (K := K)) (by rfl) T.isinstance (by decide +kernel) (pa_cons (pv 0) (pa_cons (pe_glob (v := .ref T.C_NotAHistory) rfl T.m_NotAHistory rfl) pa_nil))) pa_nil))))))
      (pss_cons (ps_set (i := 1) scError.nd rfl (.inl rfl) (pe_op op_cat (pv 1) (pe_lst (pa_cons (pe_callB (callIsErr (K := K)) (by rfl) T.isinstance (by decide +kernel) (pa_cons (pv 0) (pa_cons (pe_glob (v := .ref T.C_NotAProgram) rfl T.m_NotAProgram rfl) pa_nil))) (pa_cons (pe_callB (callIsErr (K := K)) (by rfl) T.isinstance (by decide +kernel) (pa_cons (pv 0) (pa_cons (pe_glob (v := .ref T.C_NotAnEffect) rfl T.m_NotAnEffect rfl) pa_nil))) (pa_cons (pe_callB (callIsErr (K := K)) (by rfl) T.isinstance (by decide +kernel) (pa_cons (pv 0) (pa_cons (pe_glob (v := .ref T.C_CannotRevert) rfl T.m_CannotRevert rfl) pa_nil))) pa_nil))))))
      (pss_cons (ps_set (i := 1) scError.nd rfl (.inl rfl) (pe_op op_cat (pv 1) (pe_lst (pa_cons (pe_callB (callIsErr (K := K)) (by rfl) T.isinstance (by decide +kernel) (pa_cons (pv 0) (pa_cons (pe_glob (v := .ref T.C_Busy) rfl T.m_Busy rfl) pa_nil))) (pa_cons (pe_callB (callIsErr (K := K)) (by rfl) T.isinstance (by decide +kernel) (pa_cons (pv 0) (pa_cons (pe_glob (v := .ref T.C_TooManyDiscarded) rfl T.m_TooManyDiscarded rfl) pa_nil))) pa_nil)))))
      (pss_cons (ps_set (i := 2) scError.nd rfl (.inl rfl) (pe_lst (pa_cons (pe_callB (callIsErr (K := K)) (by rfl) T.isinstance (by decide +kernel) (pa_cons (pv 0) (pa_cons (pe_glob (v := .ref T.C_UndoError) rfl T.m_UndoError rfl) pa_nil))) (pa_cons (pe_callB (callIsErr (K := K)) (by rfl) T.isinstance (by decide +kernel) (pa_cons (pv 0) (pa_cons (pe_glob (v := .ref T.C_StateError) rfl T.m_StateError rfl) pa_nil))) (pa_cons (pe_callB (callIsErr (K := K)) (by rfl) T.isinstance (by decide +kernel) (pa_cons (pv 0) (pa_cons (pe_glob (v := .ref T.C_LimitError) rfl T.m_LimitError rfl) pa_nil))) pa_nil)))))
      (pss_cons (ps_set (i := 3) scError.nd rfl (.inl rfl) (pe_lst (pa_cons (pe_callB (callIsErr (K := K)) (by rfl) T.isinstance (by decide +kernel) (pa_cons (pv 0) (pa_cons (pe_bltn (v := .ty "ValueError") (by rfl) T.ValueError (by decide +kernel) rfl) pa_nil))) (pa_cons (pe_callB (callIsErr (K := K)) (by rfl) T.isinstance (by decide +kernel) (pa_cons (pv 0) (pa_cons (pe_bltn (v := .ty "LookupError") (by rfl) T.LookupError (by decide +kernel) rfl) pa_nil))) (pa_cons (pe_callB (callIsErr (K := K)) (by rfl) T.isinstance (by decide +kernel) (pa_cons (pv 0) (pa_cons (pe_bltn (v := .ty "ArithmeticError") (by rfl) T.ArithmeticError (by decide +kernel) rfl) pa_nil))) pa_nil)))))
      (pss_cons (ps_if (PW.pt (pw_or (pt_cmpR op_ne (pe_bm PySem.F.plainAttrs_list PySem.F.slot_list_count PySem.F.type_list_count (mtCntV (K := K)) (pv 1) (pa_cons (pe_bl) pa_nil)) (pe_int) (nomark _)) (pw_or1 (pt_cmpR (opNeD (K := K) hr.units) (pv 3) (pv 2) (nomark _))))) (pss_one (ps_ret (pe_op op_sub (pe_int) (pe_int)))) (pss_nil))
      (pss_cons (ps_set (i := 4) scError.nd rfl (.inl rfl) (pe_bm PySem.F.plainAttrs_list PySem.F.slot_list_index PySem.F.type_list_index (mtIdxV (K := K)) (pv 1) (pa_cons (pe_bl) pa_nil)))
      (pss_one (ps_ret (pe_ifExp (pt_cmpR (opEqD (K := K) hr.units) (pv 2) (pe_lst (pa_cons (pe_cmpR op_lt (pv 4) (pe_int) (nomark _)) (pa_cons (pe_chain op_lt op_lt (pe_int) (pv 4) (pe_int)) (pa_cons (pe_cmpR op_eq (pv 4) (pe_int) (nomark _)) pa_nil)))) (nomark _)) (pv 4) (pe_op op_sub (pe_int) (pe_int)))))))))))))), ?_⟩
    walk_at "go"
    refine ⟨a, C, fs, _, _, _, _, _, _, _, _, rfl, .own _, hE, hC, hF, T.clsg, EK.k 0 _ (by decide) rfl, ?_⟩
    walk_at "go"
    refine ⟨a, C, fs, _, _, _, _, _, _, _, _, rfl, .own _, hE, hC, hF, T.clsg, EK.k 1 _ (by decide) rfl, ?_⟩
    walk_at "go"
    refine ⟨a, C, fs, _, _, _, _, _, _, _, _, rfl, .own _, hE, hC, hF, T.clsg, EK.k 2 _ (by decide) rfl, ?_⟩
    walk_at "go"
    refine c_newL (by simp) fun la H1 nla s1 ela => ?_
    have hE := hE.mono s1
    walk_at "go"
    refine ⟨a, C, fs, _, _, _, _, _, _, _, _, rfl, .own _, hE, hC, hF, T.clsg, EK.k 3 _ (by decide) rfl, ?_⟩
    walk_at "go"
    refine ⟨a, C, fs, _, _, _, _, _, _, _, _, rfl, .own _, hE, hC, hF, T.clsg, EK.k 4 _ (by decide) rfl, ?_⟩
    walk_at "go"
    refine ⟨a, C, fs, _, _, _, _, _, _, _, _, rfl, .own _, hE, hC, hF, T.clsg, EK.k 5 _ (by decide) rfl, ?_⟩
    walk_at "go"
    refine c_newL (by simp) fun lb H2 nlb s2 elb => ?_
    have hE := hE.mono s2
    walk_at "go"
    have ela := s2 _ _ ela
    refine c_catE ela elb (by simp) fun cb H3 ncb s3 ecb => ?_
    have hE := hE.mono s3
    simp only [List.cons_append, List.nil_append] at ecb
    walk_at "go"
    refine ⟨a, C, fs, _, _, _, _, _, _, _, _, rfl, .own _, hE, hC, hF, T.clsg, EK.k 6 _ (by decide) rfl, ?_⟩
    walk_at "go"
    refine ⟨a, C, fs, _, _, _, _, _, _, _, _, rfl, .own _, hE, hC, hF, T.clsg, EK.k 7 _ (by decide) rfl, ?_⟩
    walk_at "go"
    refine ⟨a, C, fs, _, _, _, _, _, _, _, _, rfl, .own _, hE, hC, hF, T.clsg, EK.k 8 _ (by decide) rfl, ?_⟩
    walk_at "go"
    refine c_newL (by simp) fun lc H4 nlc s4 elc => ?_
    have hE := hE.mono s4
    walk_at "go"
    have ecb := s4 _ _ ecb
    refine c_catE ecb elc (by simp) fun cc H5 ncc s5 ecc => ?_
    have hE := hE.mono s5
    simp only [List.cons_append, List.nil_append] at ecc
    walk_at "go"
    refine ⟨a, C, fs, _, _, _, _, _, _, _, _, rfl, .own _, hE, hC, hF, T.clsg, EK.k 9 _ (by decide) rfl, ?_⟩
    walk_at "go"
    refine ⟨a, C, fs, _, _, _, _, _, _, _, _, rfl, .own _, hE, hC, hF, T.clsg, EK.k 10 _ (by decide) rfl, ?_⟩
    walk_at "go"
    refine ⟨a, C, fs, _, _, _, _, _, _, _, _, rfl, .own _, hE, hC, hF, T.clsg, EK.k 11 _ (by decide) rfl, ?_⟩
    walk_at "go"
    refine c_newL (by simp) fun ld H6 nld s6 eld => ?_
    have hE := hE.mono s6
    walk_at "go"
    have ecc := s6 _ _ ecc
    refine c_catE ecc eld (by simp) fun cd H7 ncd s7 ecd => ?_
    have hE := hE.mono s7
    simp only [List.cons_append, List.nil_append] at ecd
    walk_at "go"
    refine ⟨a, C, fs, _, _, _, _, _, _, _, _, rfl, .own _, hE, hC, hF, T.clsg, EK.k 12 _ (by decide) rfl, ?_⟩
    walk_at "go"
    refine ⟨a, C, fs, _, _, _, _, _, _, _, _, rfl, .own _, hE, hC, hF, T.clsg, EK.k 13 _ (by decide) rfl, ?_⟩
    walk_at "go"
    refine ⟨a, C, fs, _, _, _, _, _, _, _, _, rfl, .own _, hE, hC, hF, T.clsg, EK.k 14 _ (by decide) rfl, ?_⟩
    walk_at "go"
    refine c_newL (by simp) fun le H8 nle s8 ele => ?_
    have hE := hE.mono s8
    walk_at "go"
    have ecd := s8 _ _ ecd
    refine c_catE ecd ele (by simp) fun ce H9 nce s9 ece => ?_
    have hE := hE.mono s9
    simp only [List.cons_append, List.nil_append] at ece
    walk_at "go"
    refine ⟨a, C, fs, _, _, _, _, _, _, _, _, rfl, .own _, hE, hC, hF, T.clsg, EK.k 15 _ (by decide) rfl, ?_⟩
    walk_at "go"
    refine ⟨a, C, fs, _, _, _, _, _, _, _, _, rfl, .own _, hE, hC, hF, T.clsg, EK.k 16 _ (by decide) rfl, ?_⟩
    walk_at "go"
    refine c_newL (by simp) fun lf H10 nlf s10 elf => ?_
    have hE := hE.mono s10
    walk_at "go"
    have ece := s10 _ _ ece
    refine c_catE ece elf (by simp) fun cf H11 ncf s11 ecf => ?_
    have hE := hE.mono s11
    simp only [List.cons_append, List.nil_append] at ecf
    walk_at "go"
    refine ⟨a, C, fs, _, _, _, _, _, _, _, _, rfl, .own _, hE, hC, hF, T.clsg, EK.b 17 _ (by decide) rfl, ?_⟩
    walk_at "go"
    refine ⟨a, C, fs, _, _, _, _, _, _, _, _, rfl, .own _, hE, hC, hF, T.clsg, EK.b 18 _ (by decide) rfl, ?_⟩
    walk_at "go"
    refine ⟨a, C, fs, _, _, _, _, _, _, _, _, rfl, .own _, hE, hC, hF, T.clsg, EK.b 19 _ (by decide) rfl, ?_⟩
    walk_at "go"
    refine c_newL (by simp) fun bs H12 nbs s12 ebs => ?_
    have hE := hE.mono s12
    walk_at "go"
    refine ⟨a, C, fs, _, _, _, _, _, _, _, _, rfl, .ty _, hE, hC, hF, T.clsg, EK.v, ?_⟩
    walk_at "go"
    refine ⟨a, C, fs, _, _, _, _, _, _, _, _, rfl, .ty _, hE, hC, hF, T.clsg, EK.l, ?_⟩
    walk_at "go"
    refine ⟨a, C, fs, _, _, _, _, _, _, _, _, rfl, .ty _, hE, hC, hF, T.clsg, EK.a, ?_⟩
    walk_at "go"
    refine c_newL (by simp) fun ow H13 now s13 eow => ?_
    have hE := hE.mono s13
    walk_at "go"
    have sAll : Same H H13 := s1.trans (s2.trans (s3.trans (s4.trans (s5.trans (s6.trans (s7.trans (s8.trans (s9.trans (s10.trans (s11.trans (s12.trans (s13))))))))))))
    have ebs := s13 _ _ ebs
    have efd : H13 cf = some (.lst (foundJ j)) := s13 _ _ (s12 _ _ ecf)
    clear s1 s2 s3 s4 s5 s6 s7 s8 s9 s10 s11 s12 s13
    refine ⟨tyv_lst efd, ?_⟩
    walk_at "go"
    refine c_cntV (y := .bl true) (ys := foundJ j) (.inl (.inl efd)) rfl rfl ?_
    rw [fj_cnt j hj]
    walk_at "go"
    refine c_neD1 (d := .list [.bool (decide (17 = bsI j)), .bool (decide (18 = bsI j)), .bool (decide (19 = bsI j))]) (n := 1) (.lst (.inl (.inl eow)) (.cons (.bl _) (.cons (.bl _) (.cons (.bl _) .nil)))) (.lst (.inl (.inl ebs)) (.cons (.bl _) (.cons (.bl _) (.cons (.bl _) .nil)))) (dok_list (n := 0) fun d hd => ?_).1 (by decide) ?_
    · simp only [List.mem_cons, List.not_mem_nil, or_false] at hd
      rcases hd with rfl | rfl | rfl <;> exact dok_bool _
    walk_at "go"
    refine ⟨tyv_lst efd, ?_⟩
    walk_at "go"
    refine c_idxV (.inl (.inl efd)) rfl rfl (fj_at j hj) rfl (fun m z' hm hz => ?_) ?_
    · have := fj_no j hj m hm
      rw [hz] at this
      simpa using this
    walk_at "go"
    have hc : j = 0 ∨ j = 1 ∨ j = 2 ∨ j = 3 ∨ j = 4 ∨ j = 5 ∨ j = 6 ∨ j = 7 ∨ j = 8 ∨ j = 9 ∨ j = 10 ∨ j = 11 ∨ j = 12 ∨ j = 13 ∨ j = 14 ∨ j = 15 ∨ j = 16 := by omega
    rcases hc with rfl | rfl | rfl | rfl | rfl | rfl | rfl | rfl | rfl | rfl | rfl | rfl | rfl | rfl | rfl | rfl | rfl <;> (
      walk_at "go"
      refine c_newL (by simp) fun tl HT _ sT eT => ?_
      walk_at "go"
      refine c_eqD1 (d := .list [.bool (decide (17 = bsI _)), .bool (decide (18 = bsI _)), .bool (decide (19 = bsI _))]) (n := 1) (.lst (.inl (.inl (sT _ _ ebs))) (.cons (.bl _) (.cons (.bl _) (.cons (.bl _) .nil)))) (.lst (.inl (.inl eT)) (.cons (.bl _) (.cons (.bl _) (.cons (.bl _) .nil)))) (dok_list (n := 0) fun d hd => ?_).1 (by decide) ?_
      · simp only [List.mem_cons, List.not_mem_nil, or_false] at hd
        rcases hd with rfl | rfl | rfl <;> exact dok_bool _
      walk_at "go"
      exact q _ (sAll.trans sT))
theorem exm_err {T : TX K mg} {C : Addr} {j : Nat} (h : ErrK K (errL T) C j) : PySem.W.exmAny K (.ref C) [.ref T.C_UndoError, .ref T.C_StateError, .ref T.C_LimitError] = some true := by
  have one : ∀ {D : Addr} {b : Bool}, PySem.W.subIn K (.ref D) (.type "BaseException") = some true → PySem.W.kitCls K (.ref C) (.ref D) = some b → PySem.W.exmOne K (.ref C) (.ref D) = some b := fun {D b} h1 h2 => by
    unfold PySem.W.exmOne
    rw [h1, if_pos (by rfl)]
    exact h2
  have h17 := one T.bx_UndoError (h.c 17 _ (by decide) rfl)
  have h18 := one T.bx_StateError (h.c 18 _ (by decide) rfl)
  have h19 := one T.bx_LimitError (h.c 19 _ (by decide) rfl)
  unfold PySem.W.exmAny PySem.W.exmAny PySem.W.exmAny PySem.W.exmAny
  rw [h17, h18, h19]
  have hj := h.lt
  unfold bsI
  by_cases h1 : j < 14
  · rw [if_pos h1]
    rfl
  · rw [if_neg h1]
    by_cases h2 : j < 16
    · rw [if_pos h2]
      rfl
    · rw [if_neg h2]
      rfl
end
end Und
namespace Und
open PySem PySem.Spec PyProof.Rows L2
local macro_rules | `(tactic| walk_at "side") => `(tactic| first | decide | omega | exact ⟨by omega, by omega⟩ | (show (0 : Int) < _; omega) | (exact Or.inl ⟨by omega, by omega⟩) | (exact Or.inr ⟨by omega, by omega⟩) | (exact sz (by simp)) | (exact szl (by simp)))
local macro_rules | `(tactic| walk_at "u") => `(tactic| first
  | with_reducible refine c_seq ?_ | with_reducible refine c_next ?_ | with_reducible refine c_yes ?_ | with_reducible refine c_asg ?_ | with_reducible refine c_asg2 ?_ | with_reducible refine c_par ?_ | with_reducible refine c_two ?_ | with_reducible refine c_g ?_ | with_reducible refine c_gsub ?_ | with_reducible refine c_gcons ?_ | with_reducible refine c_gnil ?_ | with_reducible refine c_ret ?_ | with_reducible refine c_drop ?_
  | ((with_reducible refine c_var (v := ?v) ?h ?_); (case h => rfl)) | with_reducible refine c_c ?_ | with_reducible refine c_op ?_ | with_reducible refine c_un ?_ | with_reducible refine c_I0 ?_
  | ((with_reducible refine c_I ?h ?_); (case h => walk_at "side"))
  | ((with_reducible refine c_eq ?h ?_); (case h => rfl)) | ((with_reducible refine c_neq ?h ?_); (case h => rfl)) | with_reducible refine c_test ?_ | with_reducible refine c_B ?_ | with_reducible refine c_bl ?_ | with_reducible refine c_int ?_ | with_reducible refine c_ifs ?_ | with_reducible refine c_ife ?_
  | with_reducible refine c_andV ?_ | with_reducible refine c_orV ?_ | with_reducible refine c_notV ?_ | with_reducible refine c_and ?_ | with_reducible refine c_or ?_ | with_reducible refine c_not ?_
  | with_reducible refine c_call ?_ | with_reducible refine c_cb ?_ | with_reducible refine c_nil ?_ | with_reducible refine c_cons ?_
  | with_reducible refine c_tup ?_ | with_reducible refine c_lst ?_ | with_reducible refine c_sl ?_ | with_reducible refine c_nop ?_ | with_reducible refine c_part ?_ | with_reducible refine c_fld ?_
  | with_reducible refine c_for ?_ | with_reducible refine c_ilist ?_ | with_reducible refine c_itup ?_ | with_reducible refine c_irng1 ?_ | with_reducible refine c_lc ?_
  | with_reducible refine c_m1 ?_ | with_reducible refine c_isS ?_ | with_reducible refine c_chain ?_ | with_reducible refine c_str ?_ | with_reducible refine c_make ?_ | with_reducible refine c_meth ?_ | with_reducible refine c_prop ?_ | with_reducible refine c_sfld ?_ | with_reducible refine c_ienumT ?_ | with_reducible refine iteT ?_ | with_reducible refine iteF ?_ | with_reducible refine iteNT ?_ | with_reducible refine iteNF ?_
  | ((with_reducible refine iteDT ?h ?_); (case h => first | rfl | omega)) | ((with_reducible refine iteDF ?h ?_); (case h => first | omega | (intro z; cases z; done))) | ((with_reducible refine iteNDT ?h ?_); (case h => first | rfl | omega)) | ((with_reducible refine iteNDF ?h ?_); (case h => first | omega | (intro z; cases z; done))))
local macro_rules | `(tactic| walk_at "go") => `(tactic| repeat (walk_at "u"))
section
variable {P : Program} {w : World} {K : PySem.W.Frag} {mg : Str → Option Value} {base : Heap}
def spLine (K : PySem.W.Frag) (C : Addr) : Sp := fun vs H Q _ => ∃ (a : Addr) (ps fs : List Str), vs = [.ref a] ∧ HistAt K C H a ps fs ∧ ∀ t H', Same H H' → SqT K H' t ((ps ++ fs).map V.str) → Q (.ref t) H'
theorem ok_line (T : TX K mg) : FnOk P w K mg base CX0 1 T.f_History_line T.fd_History_line pHLine (spLine K T.C_History) := by
  refine T.F_History_line.ok scHLine (fun vs H Q E h => ?_) (fun cdv A outer s H vs Q E hr h => ?_)
  · obtain ⟨a, ps, fs, rfl, _⟩ := h
    rfl
  · obtain ⟨a, ps, fs, rfl, ⟨⟨dx, tp, tf, e, h1, h2⟩, n1, n2, l⟩, q⟩ := h
    refine ⟨_, pss_one (ps_ret (pe_op (opCatT (K := K)) (peFld (K := K) (pv 0) rfl) (peFld (K := K) (pv 0) rfl))), ?_⟩
    walk_at "go"
    refine ⟨a, _, dx, _, _, rfl, e, T.cl_History, T.n_History_past, flds_past _ _, ?_⟩
    walk_at "go"
    refine ⟨a, _, dx, _, _, rfl, e, T.cl_History, T.n_History_future, flds_future _ _, ?_⟩
    refine c_catT h1 h2 (by rw [List.length_map, List.length_map]; omega) fun t H' s' ht => ?_
    rw [← List.map_append] at ht
    exact q t H' s' ht
end
end Und
namespace Und
open PySem PySem.Spec PyProof.Rows L2
local macro_rules | `(tactic| walk_at "side") => `(tactic| first | decide | omega | exact ⟨by omega, by omega⟩ | (show (0 : Int) < _; omega) | (exact Or.inl ⟨by omega, by omega⟩) | (exact Or.inr ⟨by omega, by omega⟩) | (exact sz (by simp)) | (exact szl (by simp)))
local macro_rules | `(tactic| walk_at "u") => `(tactic| first
  | with_reducible refine c_seq ?_ | with_reducible refine c_next ?_ | with_reducible refine c_yes ?_ | with_reducible refine c_asg ?_ | with_reducible refine c_asg2 ?_ | with_reducible refine c_par ?_ | with_reducible refine c_two ?_ | with_reducible refine c_g ?_ | with_reducible refine c_gsub ?_ | with_reducible refine c_gcons ?_ | with_reducible refine c_gnil ?_ | with_reducible refine c_ret ?_ | with_reducible refine c_drop ?_
  | ((with_reducible refine c_var (v := ?v) ?h ?_); (case h => rfl)) | with_reducible refine c_c ?_ | with_reducible refine c_op ?_ | with_reducible refine c_un ?_ | with_reducible refine c_I0 ?_
  | ((with_reducible refine c_I ?h ?_); (case h => walk_at "side"))
  | ((with_reducible refine c_eq ?h ?_); (case h => rfl)) | ((with_reducible refine c_neq ?h ?_); (case h => rfl)) | with_reducible refine c_test ?_ | with_reducible refine c_B ?_ | with_reducible refine c_bl ?_ | with_reducible refine c_int ?_ | with_reducible refine c_ifs ?_ | with_reducible refine c_ife ?_
  | with_reducible refine c_andV ?_ | with_reducible refine c_orV ?_ | with_reducible refine c_notV ?_ | with_reducible refine c_and ?_ | with_reducible refine c_or ?_ | with_reducible refine c_not ?_
  | with_reducible refine c_call ?_ | with_reducible refine c_cb ?_ | with_reducible refine c_nil ?_ | with_reducible refine c_cons ?_
  | with_reducible refine c_tup ?_ | with_reducible refine c_lst ?_ | with_reducible refine c_sl ?_ | with_reducible refine c_nop ?_ | with_reducible refine c_part ?_ | with_reducible refine c_fld ?_
  | with_reducible refine c_for ?_ | with_reducible refine c_ilist ?_ | with_reducible refine c_itup ?_ | with_reducible refine c_irng1 ?_ | with_reducible refine c_lc ?_
  | with_reducible refine c_m1 ?_ | with_reducible refine c_isS ?_ | with_reducible refine c_chain ?_ | with_reducible refine c_str ?_ | with_reducible refine c_make ?_ | with_reducible refine c_meth ?_ | with_reducible refine c_prop ?_ | with_reducible refine c_sfld ?_ | with_reducible refine c_ienumT ?_ | with_reducible refine iteT ?_ | with_reducible refine iteF ?_ | with_reducible refine iteNT ?_ | with_reducible refine iteNF ?_
  | ((with_reducible refine iteDT ?h ?_); (case h => first | rfl | omega)) | ((with_reducible refine iteDF ?h ?_); (case h => first | omega | (intro z; cases z; done))) | ((with_reducible refine iteNDT ?h ?_); (case h => first | rfl | omega)) | ((with_reducible refine iteNDF ?h ?_); (case h => first | omega | (intro z; cases z; done))))
local macro_rules | `(tactic| walk_at "go") => `(tactic| repeat (walk_at "u"))
local macro_rules | `(tactic| walk_at "u") => `(tactic| first | with_reducible refine c_rse ?_ | with_reducible refine c_m0 ?_)
section
variable {P : Program} {w : World} {K : PySem.W.Frag} {mg : Str → Option Value} {base : Heap}
/-- v is no tuple of names: w tells the place of the first that is none -/
def BadN (K : PySem.W.Frag) (H : Hp) (v w : V) : Prop := (∃ t, TyX K H v t ∧ PySem.W.kitOne K t (.type "tuple") = some false ∧ w = .non) ∨
  ∃ (a : Addr) (us : List V) (i : Nat) (x : V), v = .ref a ∧ SqT K H a us ∧ us[i]? = some x ∧ NmQ K H x false ∧ (∀ (j : Nat) y, j < i → us[j]? = some y → ∃ z, y = .str z ∧ IsName z) ∧ w = .int i
theorem BadN.mono {H H' : Hp} {v w : V} (s : Same H H') (h : BadN K H v w) : BadN K H' v w := by
  rcases h with ⟨t, h1, h2, h3⟩ | ⟨a, us, i, x, h1, h2, h3, h4, h5, h6⟩
  · exact .inl ⟨t, tyx_mono s h1, h2, h3⟩
  · exact .inr ⟨a, us, i, x, h1, same_seqT s h2, h3, h4.mono s, h5, h6⟩
theorem Rsd.from {C : Addr} {f : Str} {v : V} {H H1 : Hp} {E : XK} (s : Same H H1) (q : Rsd C f v H E) : Rsd C f v H1 E := fun d H' n s2 e => q d H' (s.free n) (s.trans s2) e
def spChNamesX (K : PySem.W.Frag) (C : Addr) : Sp := fun vs H _ E => ∃ v w : V, vs = [v] ∧ BadN K H v w ∧ Rsd C "index" w H E
theorem ok_check_namesX (T : TX K mg) : FnOk P w K mg base (L2.CX P w) 3 T.f_check_names T.fd_check_names pChNames (spChNamesX K T.C_InvalidNames) := by
  have G_InvalidNames_init := ok_InvalidNames (P := P) (w := w) (base := base) T
  refine T.d_check_names.F.okX scChNames (fun vs H Q E h => ?_) (fun cdv A outer s H vs Q E hr h => ?_)
  · obtain ⟨v, w, rfl, _⟩ := h
    rfl
  · obtain ⟨v, w, rfl, hv, q⟩ := h
    refine ⟨_, pss_cons (ps_if (pt_not (pt_val (pe_callB (callIsi (K := K)) (by rfl) T.isinstance (by decide +kernel) (pa_cons (pv 0) (pa_cons (pe_bltn (v := .ty "tuple") (by rfl) T.tuple (by decide +kernel) rfl) pa_nil))))) (pss_one (ps_rse (E := E) (pmk_E T.ec_InvalidNames famV T.ei_InvalidNames G_InvalidNames_init (hr.mono (by decide)) T.b_InvalidNames_init (by rfl) T.m_InvalidNames (pa_cons (pe_non) pa_nil)))) (pss_nil))
      (pss_one (ps_for (passes_of rfl) rfl (pi_enumT (by rfl) T.enumerate (pa_cons (pv 0) pa_nil)) (pgTup (K := K) (n := 2) (by rfl) (pgs_cons (pg_name (i := 1) scChNames.nd rfl (.inl rfl)) (pgs_cons (pg_name (i := 2) scChNames.nd rfl (.inl rfl)) pgs_nil)))
        (pss_one (ps_if (PW.pt (pw_or (pt_not (pt_val (pe_callB (callIsi (K := K)) (by rfl) T.isinstance (by decide +kernel) (pa_cons (pv 2) (pa_cons (pe_bltn (v := .ty "str") (by rfl) T.str (by decide +kernel) rfl) pa_nil))))) (pw_or (pt_cmpR op_gt (pe_callB callLnS (by rfl) T.len (by decide +kernel) (pa_cons (pv 2) pa_nil)) (peGlobI rfl T.mLONGEST_NAME) (nomark _)) (pw_or1 (pt_not (PW.pt (pw_and (pt_val (pe_m0 PySem.F.slot_str_isascii PySem.F.type_str_isascii mrAscii (pv 2))) (pw_and (pt_val (pe_m0 PySem.F.slot_str_isalpha PySem.F.type_str_isalpha mrAlpha (pv 2))) (pw_and1 (pt_val (pe_m0 PySem.F.slot_str_islower PySem.F.type_str_islower mrLower (pv 2)))))))))))) (pss_one (ps_rse (E := E) (pmk_E T.ec_InvalidNames famV T.ei_InvalidNames G_InvalidNames_init (hr.mono (by decide)) T.b_InvalidNames_init (by rfl) T.m_InvalidNames (pa_cons (pv 1) pa_nil)))) (pss_nil))))), ?_⟩
    rcases hv with ⟨t, ty, kt, rfl⟩ | ⟨a, us, i0, x0, rfl, hT, hx0, hno, hyes, rfl⟩
    · walk_at "go"
      refine c_isiN ty kt ?_
      walk_at "go"
      exact c_rsd q
    · walk_at "go"
      refine c_isi (r := true) (ty_tup hT) (by decide +kernel) ?_
      walk_at "go"
      refine ⟨a, _, rfl, hT, ?_⟩
      refine for_enumT (xs := us) (fun i σ H' => Same H H' ∧ (∃ x y, σ = [some (.ref a), x, y]) ∧ i ≤ i0) ⟨Same.refl _, ⟨_, _, rfl⟩, Nat.zero_le _⟩ (fun i σ H' _ h => same_seqT h.1 hT) (fun i x t σ H' hx h nt => ?_) (fun σ H' h => ?_)
      · obtain ⟨s1, ⟨y1, y2, rfl⟩, hi⟩ := h
        have s2 := s1.trans (same_new (o := .tup [.int i, x]) nt)
        refine c_gtup (.inl (.inl upd_same)) rfl ?_
        by_cases hlt : i < i0
        · obtain ⟨z, rfl, nz⟩ := hyes i x hlt hx
          have h1 := nz.lo
          have h8 := nz.hi
          walk_at "go"
          refine c_isi (r := true) (ty_str z) (by decide +kernel) ?_
          walk_at "go"
          refine c_lnS (by omega) ?_
          walk_at "go"
          refine c_rMB nz.ascii ?_
          walk_at "go"
          refine c_rMB nz.alpha ?_
          walk_at "go"
          refine c_rMB nz.lower ?_
          walk_at "go"
          exact ⟨s2, ⟨_, _, rfl⟩, hlt⟩
        · obtain rfl : i = i0 := by omega
          obtain rfl : x = x0 := Option.some.inj (hx.symm.trans hx0)
          have q' : Rsd T.C_InvalidNames "index" (.int i) _ E := Rsd.from s2 q
          have hno := hno.mono s2
          rcases hno with ⟨z, rfl, hl, ⟨_, hz⟩ | ⟨h9, _⟩ | ⟨h8, hb, _⟩⟩ | ⟨t', ty, kt, _⟩
          · cases hz
          · walk_at "go"
            refine c_isi (r := true) (ty_str z) (by decide +kernel) ?_
            walk_at "go"
            refine c_lnS (by omega) ?_
            walk_at "go"
            exact c_rsd q'
          · walk_at "go"
            refine c_isi (r := true) (ty_str z) (by decide +kernel) ?_
            walk_at "go"
            refine c_lnS (by omega) ?_
            walk_at "go"
            refine c_rMB rfl ?_
            cases e1 : Txt.isascii z with
            | false =>
              walk_at "go"
              exact c_rsd q'
            | true =>
              walk_at "go"
              refine c_rMB rfl ?_
              cases e2 : Txt.isalpha z with
              | false =>
                walk_at "go"
                exact c_rsd q'
              | true =>
                walk_at "go"
                refine c_rMB rfl ?_
                rw [e1, e2] at hb
                have hb : Txt.islower z = false := hb
                rw [hb]
                walk_at "go"
                exact c_rsd q'
          · walk_at "go"
            refine c_isiN ty kt ?_
            walk_at "go"
            exact c_rsd q'
      · exact absurd h.2.2 (by have := (List.getElem?_eq_some_iff.mp hx0).1; omega)
/-! ### a history that is not made -/
def spInitX (K : PySem.W.Frag) (C : Addr) : Sp := fun vs H _ E => ∃ (x : Addr) (v u w : V), vs = [.ref x, v, u] ∧ (BadN K H v w ∨ ∃ (t : Addr) (ns : List Str), v = .ref t ∧ SqT K H t (ns.map V.str) ∧ (∀ z ∈ ns, IsName z) ∧ BadN K H u w) ∧ Rsd C "index" w H E
theorem ok_initX (T : TX K mg) : FnOk P w K mg base (L2.CX P w) 4 T.f_History_init T.fd_History_init pHInit (spInitX K T.C_InvalidNames) := by
  have GX_check_names : FnOk P w K mg base (L2.CX P w) 3 T.f_check_names T.fd_check_names pChNames _ := FnOk.or ((ok_check_names (P := P) (w := w) (base := base) T).mono (by decide)) (ok_check_namesX (P := P) (w := w) (base := base) T)
  refine T.F_History_init.ok (CX := L2.CX P w) scHInit (fun vs H Q E h => ?_) (fun cdv A outer s H vs Q E hr h => ?_)
  · obtain ⟨x, v, u, w, rfl, _⟩ := h
    rfl
  · obtain ⟨x, v, u, w, rfl, hb, q⟩ := h
    refine ⟨_, pss_cons (ps_expr (pcall T.d_check_names GX_check_names (hr.mono (by decide)) (by rfl) (passX (E := E)) (pa_cons (pv 1) pa_nil)))
      (pss_cons (ps_expr (pcall T.d_check_names GX_check_names (hr.mono (by decide)) (by rfl) (passX (E := E)) (pa_cons (pv 2) pa_nil)))
      (pss_never)), ?_⟩
    rcases hb with hb | ⟨t, ns, rfl, hT, hn, hb⟩
    · walk_at "go"
      exact .inr ⟨v, w, rfl, hb, q⟩
    · walk_at "go"
      refine .inl ⟨t, ns, rfl, hT, hn, fun H1 s1 => ?_⟩
      walk_at "go"
      exact .inr ⟨u, w, rfl, hb.mono s1, Rsd.from s1 q⟩
/-- C(past, future) raises -/
theorem c_mkHX {C CE : Addr} {v u w : V} {H : Hp} {Q : VK} {E : XK} {sp : Sp} (h : BadN K H v w ∨ ∃ (t : Addr) (ns : List Str), v = .ref t ∧ SqT K H t (ns.map V.str) ∧ (∀ z ∈ ns, IsName z) ∧ BadN K H u w) (q : Rsd CE "index" w H E) {vs : List V} (ev : vs = [v, u]) : rMk C (fun vs H Q E => sp vs H Q E ∨ spInitX K CE vs H Q E) E vs H Q := fun x dx nx nd ne => by
  have s1 : Same H (upd (upd H dx (.own x)) x (.ins C dx [])) := fun b o e => by
    rw [upd_ne (ne_of_none e nx), upd_ne (ne_of_none e nd)]
    exact e
  refine .inr ⟨x, v, u, w, by rw [ev], ?_, Rsd.from s1 q⟩
  rcases h with h | ⟨t, ns, e, hT, hn, h⟩
  · exact .inl (h.mono s1)
  · exact .inr ⟨t, ns, e, same_seqT s1 hT, hn, h.mono s1⟩
def spHOfX (K : PySem.W.Frag) (C CE : Addr) : Sp := fun vs H _ E => ∃ (t : Addr) (w : V), vs = [.ref C, .ref t] ∧ BadN K H (.ref t) w ∧ Rsd CE "index" w H E
theorem ok_hofX (T : TX K mg) : FnR P w K mg base (L2.CX P w) 6 T.f_History_of (spStar 1 (spHOfX K T.C_History T.C_InvalidNames)) := by
  have GX_History_init := FnOk.or ((ok_init (P := P) (w := w) (base := base) T).mono (by decide)) (ok_initX (P := P) (w := w) (base := base) T)
  refine FunS.okX T.F_History_of (ps := ["cls"]) scHOf fun cdv A outer s H vs Q E hr h => ?_
  obtain ⟨t, w, rfl, hb, q⟩ := h
  refine ⟨_, pss_one (ps_ret (pe_makeL (i := 0) T.mk_History GX_History_init (hr.mono (by decide)) rfl (.inl rfl) T.b1_History_init T.v1_History_init (passX (E := E)) (pa_cons (pv 1) pa_nil))), ?_⟩
  walk_at "go"
  refine c_makeL rfl ?_
  walk_at "go"
  exact c_mkHX (.inl hb) q rfl
end
end Und
set_option exponentiation.threshold 4000
namespace Und
open PySem PySem.Spec PyProof.Rows L2 LamX
local macro_rules | `(tactic| walk_at "side") => `(tactic| first | decide | omega | exact ⟨by omega, by omega⟩ | (show (0 : Int) < _; omega) | (exact Or.inl ⟨by omega, by omega⟩) | (exact Or.inr ⟨by omega, by omega⟩) | (exact sz (by simp)) | (exact szl (by simp)))
local macro_rules | `(tactic| walk_at "u") => `(tactic| first
  | with_reducible refine c_seq ?_ | with_reducible refine c_next ?_ | with_reducible refine c_yes ?_ | with_reducible refine c_asg ?_ | with_reducible refine c_asg2 ?_ | with_reducible refine c_par ?_ | with_reducible refine c_two ?_ | with_reducible refine c_g ?_ | with_reducible refine c_gsub ?_ | with_reducible refine c_gcons ?_ | with_reducible refine c_gnil ?_ | with_reducible refine c_ret ?_ | with_reducible refine c_drop ?_
  | ((with_reducible refine c_var (v := ?v) ?h ?_); (case h => rfl)) | with_reducible refine c_c ?_ | with_reducible refine c_op ?_ | with_reducible refine c_un ?_ | with_reducible refine c_I0 ?_
  | ((with_reducible refine c_I ?h ?_); (case h => walk_at "side"))
  | ((with_reducible refine c_eq ?h ?_); (case h => rfl)) | ((with_reducible refine c_neq ?h ?_); (case h => rfl)) | with_reducible refine c_test ?_ | with_reducible refine c_B ?_ | with_reducible refine c_bl ?_ | with_reducible refine c_int ?_ | with_reducible refine c_ifs ?_ | with_reducible refine c_ife ?_
  | with_reducible refine c_andV ?_ | with_reducible refine c_orV ?_ | with_reducible refine c_notV ?_ | with_reducible refine c_and ?_ | with_reducible refine c_or ?_ | with_reducible refine c_not ?_
  | with_reducible refine c_call ?_ | with_reducible refine c_cb ?_ | with_reducible refine c_nil ?_ | with_reducible refine c_cons ?_
  | with_reducible refine c_tup ?_ | with_reducible refine c_lst ?_ | with_reducible refine c_sl ?_ | with_reducible refine c_nop ?_ | with_reducible refine c_part ?_ | with_reducible refine c_fld ?_
  | with_reducible refine c_for ?_ | with_reducible refine c_ilist ?_ | with_reducible refine c_itup ?_ | with_reducible refine c_irng1 ?_ | with_reducible refine c_lc ?_
  | with_reducible refine c_m1 ?_ | with_reducible refine c_isS ?_ | with_reducible refine c_chain ?_ | with_reducible refine c_str ?_ | with_reducible refine c_make ?_ | with_reducible refine c_meth ?_ | with_reducible refine c_prop ?_ | with_reducible refine c_sfld ?_ | with_reducible refine c_ienumT ?_ | with_reducible refine iteT ?_ | with_reducible refine iteF ?_ | with_reducible refine iteNT ?_ | with_reducible refine iteNF ?_
  | ((with_reducible refine iteDT ?h ?_); (case h => first | rfl | omega)) | ((with_reducible refine iteDF ?h ?_); (case h => first | omega | (intro z; cases z; done))) | ((with_reducible refine iteNDT ?h ?_); (case h => first | rfl | omega)) | ((with_reducible refine iteNDF ?h ?_); (case h => first | omega | (intro z; cases z; done))))
local macro_rules | `(tactic| walk_at "go") => `(tactic| repeat (walk_at "u"))
local macro_rules | `(tactic| walk_at "u") => `(tactic| first | with_reducible refine c_try ?_ | with_reducible refine c_fldE ?_ | with_reducible refine c_mkK ?_ | with_reducible refine c_cmeth ?_)
/-- what the law's try makes of an error: the number of its class, its field as a text -/
def Cgt (K : PySem.W.Frag) (L : List Addr) (Q : VK) : XK := fun cls d H => ∃ (C : Addr) (v : V) (x : Str) (dd : Addr), cls = .ref C ∧ ErrK K L C 1 ∧ d = some dd ∧ H dd = some (.xd [("index", v)]) ∧ PySem.W.findIn K (.ref C) "index" = some none ∧
  Rp K H v x ∧ ∀ p H', Same H H' → H' p = some (.lst [.int 1, .str x]) → Q (.ref p) H'
def TCaught (K : PySem.W.Frag) (L : List Addr) : (XK → Hp → VK → Prop) → Hp → VK → Prop := fun tl H Q => tl (Cgt K L Q) H fun _ H1 => rNewL [.str "told", .str ""] H1 Q
theorem c_caught {K : PySem.W.Frag} {L : List Addr} {tl : XK → Hp → VK → Prop} {H : Hp} {Q : VK} (h : tl (Cgt K L Q) H fun _ H1 => rNewL [.str "told", .str ""] H1 Q) : TCaught K L tl H Q := h
theorem one_lookup {f : Str} {v : V} : List.lookup f [(f, v)] = some v := by simp
theorem gives_law_caught {X : Cx} {K : PySem.W.Frag} {mg : Str → Option Value} (T : TX K mg) (g : Still X.A) (hr : L2H.RoomH 3 X.A) {q : Str} (hK : X.K = K := by rfl) (hm : X.mg = mg := by rfl) : ∀ cdv, GivesTo X nCaught "_law_caught" (defScope sCaught) T.f_law_caught cdv (defBody sCaught) "_law_act" q (TCaught K (errL T)) := by
  subst hK
  subst hm
  intro cdv f c' s H Q tl act hc h
  have gq : Still (X.A.deeper (envOfC "_law_caught" (defScope sCaught) s.heap.objs.size T.f_law_caught cdv)) := still_deeper g
  have hq : L2H.RoomH 2 (X.A.deeper (envOfC "_law_caught" (defScope sCaught) s.heap.objs.size T.f_law_caught cdv)) := hr.deeper _
  have GQ_law_error := ok_error (P := X.prog) (w := X.w) (base := X.base) T
  refine ⟨_, pss_cons (ps_tryT (i := 1) rfl rfl scCaught.nd rfl rfl ⟨by rfl, by decide, .inl T.m_UndoError⟩ ⟨by rfl, by decide, .inl T.m_StateError⟩ ⟨by rfl, by decide, .inl T.m_LimitError⟩
      (fun W pn xe tk => pss_one (ps_expr (pe_actW fun Ech hW => act W pn xe Ech _ _ tk hW)))
      (fun ae pn => pss_cons (ps_set (i := 2) scCaught.nd rfl (.inl rfl) (pcallQ (E := L2.E0) T.d_law_error GQ_law_error (still_mark gq) (roomH_mark (hq.mono (by decide))) (by rfl) (pa_cons (pv 1) pa_nil)))
      (pss_one (ps_ret (pe_lst (pa_cons (pv 2) (pa_cons (pe_ifExp (pt_cmpR op_eq (pv 2) (pe_int) (nomark _)) (pe_callB (crRA (K := X.K) (still_mark gq) (roomH_mark hq)) (by rfl) T.repr (by decide +kernel) (pa_cons (peFldE (K := X.K) (pv 1)) pa_nil)) (pe_str)) pa_nil)))))))
      (pss_one (ps_ret (pe_lst (pa_cons (pe_str) (pa_cons (pe_str) pa_nil))))), ?_⟩
  walk_at "go"
  refine c_act (Cgt X.K (errL T) Q) (fun cls d σ' H' hE => ?_) rfl hc h
  obtain ⟨C, v, x, dd, rfl, EK, rfl, hd, hno, hR, k⟩ := hE
  refine ⟨exm_err EK, fun ae oe hl na hcl hdc hnc => ?_⟩
  obtain ⟨s0, s1, s2, rfl⟩ : ∃ a b c, σ' = [a, b, c] := by
    match σ', hl with
    | [a, b, c], _ => exact ⟨a, b, c, rfl⟩
  have sa : Same H' (upd H' ae (exq ae oe)) := same_new na
  have eA : ErrAt (upd H' ae (exq ae oe)) ae C [("index", v)] := .inr (.inr ⟨oe, upd_same, hcl, hnc, .inr ⟨dd, hdc, sa _ _ hd⟩⟩)
  generalize upd H' ae (exq ae oe) = Ha at *
  obtain ⟨refs, B, newId, initId, bmB, hC, hF⟩ := id EK.e
  walk_at "go"
  refine ⟨ae, C, _, 1, rfl, eA, EK, fun H2 t2 => ?_⟩
  have sb := sa.trans t2
  walk_at "go"
  refine ⟨ae, C, _, refs, B, newId, initId, bmB, v, rfl, eA.mono t2, hC, hF, hno, one_lookup, ?_⟩
  walk_at "go"
  refine c_reprA (hR.mono sb) ?_
  walk_at "go"
  refine c_newL (by simp) fun p H3 np s3 e3 => ?_
  exact k p H3 (sb.trans s3) e3
section
variable {K : PySem.W.Frag} {H H' : Hp} {v w : V}
theorem NmQ.ext {b : Bool} (s : ExtN H H') (h : NmQ K H v b) : NmQ K H' v b := by
  rcases h with h | ⟨t, h1, h2⟩
  · exact .inl h
  · exact .inr ⟨t, tyx_extN s h1, h2⟩
theorem BadN.ext (s : ExtN H H') (h : BadN K H v w) : BadN K H' v w := by
  rcases h with ⟨t, h1, h2, h3⟩ | ⟨a, us, i, x, h1, h2, h3, h4, h5, h6⟩
  · exact .inl ⟨t, tyx_extN s h1, h2, h3⟩
  · exact .inr ⟨a, us, i, x, h1, ExtN.seqT s h2, h3, h4.ext s, h5, h6⟩
theorem HistAt.ext {C a : Addr} {ps fs : List Str} (s : ExtN H H') (h : HistAt K C H a ps fs) : HistAt K C H' a ps fs := by
  obtain ⟨⟨dx, tp, tf, e, h1, h2⟩, a1, a2, l⟩ := h
  exact ⟨⟨dx, tp, tf, s _ _ e (fun ps z => by cases z), ExtN.seqT s h1, ExtN.seqT s h2⟩, a1, a2, l⟩
theorem HistAt.stp {C a p : Addr} {ps fs : List Str} (h : HistAt K C H a ps fs) (q : Pool H p) (st : Stp p H H') : HistAt K C H' a ps fs := by
  obtain ⟨⟨dx, tp, tf, e, h1, h2⟩, a1, a2, l⟩ := h
  exact ⟨⟨dx, tp, tf, pool_stay q st e (by intro l z; cases z), pool_stayT q st h1, pool_stayT q st h2⟩, a1, a2, l⟩
end
section
variable {P : Program} {w : World} {K : PySem.W.Frag} {mg : Str → Option Value} {base : Heap}
/-- History(..) comes to what the try tells: x, y -/
def Tell (K : PySem.W.Frag) (H : Hp) (v u : V) (c : V × Str) : Prop := (∃ w x, c = (V.int 1, x) ∧ Rp K H w x ∧ (BadN K H v w ∨ ∃ (t : Addr) (ns : List Str), v = .ref t ∧ SqT K H t (ns.map V.str) ∧ (∀ z ∈ ns, IsName z) ∧ BadN K H u w)) ∨
  ∃ (t1 t2 : Addr) (ps fs : List Str), c = (V.str "told", Str.ofString "") ∧ v = .ref t1 ∧ u = .ref t2 ∧ SqT K H t1 (ps.map V.str) ∧ SqT K H t2 (fs.map V.str) ∧ (∀ z ∈ ps, IsName z) ∧ (∀ z ∈ fs, IsName z) ∧ ps.length + fs.length ≤ 4000
theorem Tell.ext {H H' : Hp} {v u : V} {c : V × Str} (s : ExtN H H') (h : Tell K H v u c) : Tell K H' v u c := by
  rcases h with ⟨w, x, e, hR, h⟩ | ⟨t1, t2, ps, fs, e, e1, e2, h1, h2, r⟩
  · refine .inl ⟨w, x, e, hR.ext s, ?_⟩
    rcases h with h | ⟨t, ns, e, hT, hn, h⟩
    · exact .inl (h.ext s)
    · exact .inr ⟨t, ns, e, ExtN.seqT s hT, hn, h.ext s⟩
  · exact .inr ⟨t1, t2, ps, fs, e, e1, e2, ExtN.seqT s h1, ExtN.seqT s h2, r⟩
theorem tell_mk (T : TX K mg) {G : Hp} {v u : V} {c : V × Str} {Q : VK} (hc : Tell K G v u c) (q : ∀ p H', Same G H' → H' p = some (.lst [c.1, .str c.2]) → Q (.ref p) H') :
    rMk T.C_History (fun vs H Q E => spInit K T.C_History vs H Q E ∨ spInitX K T.C_InvalidNames vs H Q E) (Cgt K (errL T) Q) [v, u] G (fun _ H1 => rNewL [.str "told", .str ""] H1 Q) := by
  rcases hc with ⟨w, x, rfl, hR, h⟩ | ⟨t1, t2, ps, fs, rfl, rfl, rfl, h1, h2, n1, n2, l⟩
  · exact c_mkHX h (fun d H' nd s ed => ⟨T.C_InvalidNames, w, x, d, rfl, ek_InvalidNames T, rfl, ed, T.nf_InvalidNames, hR.mono s, fun p H'' s' e' => q p H'' (s.trans s') e'⟩) rfl
  · have h : rMk T.C_History (spInit K T.C_History) (Cgt K (errL T) Q) [V.ref t1, V.ref t2] G (fun _ H1 => rNewL [.str "told", .str ""] H1 Q) :=
      c_mkH h1 h2 n1 n2 l (fun r H' s hH => c_newL (by simp) fun p H2 _ s2 e2 => q p H2 (s.trans s2) e2) rfl
    exact fun x dx nx nd ne => .inl (h x dx nx nd ne)
def spMade (T : TX K mg) : Sp := fun vs H Q _ => ∃ (v u : V) (c : V × Str), vs = [v, u] ∧ Tell K H v u c ∧ Tabs (tS T) H ∧
  ∀ L p1 p2 H', ExtN H H' → Tabs (tS T) H' → H' L = some (.lst [.ref p1, .ref p2]) → H' p1 = some (.lst [c.1, .str c.2]) → H' p2 = some (.lst [c.1, .str c.2]) → Q (.ref L) H'
theorem ok_made (T : TX K mg) (lt : LTab base mg (tS T) "_law_made" T.c_law_made T.P_law_made) : FnG P w K mg base CX0 12 T.f_law_made T.fd_law_made pLMade (spMade T) := by
  have GX_History_init := FnOk.or ((ok_init (P := P) (w := w) (base := base) T).mono (by decide)) (ok_initX (P := P) (w := w) (base := base) T)
  refine okC T.dc_law_made scLMade (fun vs H Q E h => ?_) (fun A outer s H vs Q E g hr h => ?_)
  · obtain ⟨v, u, c, rfl, _⟩ := h
    rfl
  · obtain ⟨v, u, c, rfl, hc, TT, q⟩ := h
    refine ⟨_, pss_one (ps_ret (pe_lst (pa_cons (lamD (k := 9) T.d_law_caught scCaught rfl (.inl rfl) (gives_law_caught T g (L2H.roomH_of (k := 3) (hr.mono (by decide)))) lt.tb rfl lt.mem lt.uq (hr.mono (by decide)) (by rfl) (lamS_by (show lamSB (defScope sLMade) _ = true by decide +kernel)) rfl (fun _ _ _ _ _ => rfl) (fun A outer s H E f c' hr => pe_make T.mk_History GX_History_init (hr.mono (by decide)) (by rfl) T.m_History T.b2_History_init T.v2_History_init (passX (E := E)) (pa_cons (pv 0) (pa_cons (pv 1) pa_nil)))) (pa_cons (lamD (k := 9) T.d_law_caught scCaught rfl (.inl rfl) (gives_law_caught T g (L2H.roomH_of (k := 3) (hr.mono (by decide)))) lt.tb rfl lt.mem lt.uq (hr.mono (by decide)) (by rfl) (lamS_by (show lamSB (defScope sLMade) _ = true by decide +kernel)) rfl (fun _ _ _ _ _ => rfl) (fun A outer s H E f c' hr => pe_makeK0 T.mk_History GX_History_init (hr.mono (by decide)) (by rfl) T.m_History T.kd0_History_init (passX (E := E)) (pk_cons (pv 1) (pk_cons (pv 0) pk_nil)))) pa_nil)))), ?_⟩
    walk_at "go"
    refine c_lam TT fun G1 x1 TT1 => ?_
    refine c_caught ?_
    walk_at "go"
    refine tell_mk T (hc.ext x1) fun p1 G2 s2 e2 => ?_
    have y12 := ExtN.trans x1 (.of s2)
    walk_at "go"
    refine c_lam (TT1.ext s2) fun G3 x3 TT3 => ?_
    refine c_caught ?_
    walk_at "go"
    refine ⟨rfl, tell_mk T (hc.ext (ExtN.trans y12 x3)) fun p2 G4 s4 e4 => ?_⟩
    have e2 := s4 _ _ (x3 _ _ e2 fun ps z => by cases z)
    walk_at "go"
    refine c_newL (by simp) fun L G5 _ s5 e5 => ?_
    exact q L p1 p2 G5 (ExtN.trans y12 (ExtN.trans x3 (.of (s4.trans s5)))) ((TT3.ext s4).ext s5) e5 (s5 _ _ e2) (s5 _ _ e4)
/-! ### a history shown -/
def spHLen (K : PySem.W.Frag) (C : Addr) : Sp := fun vs H Q _ => ∃ (a : Addr) (ps fs : List Str), vs = [.ref a] ∧ HistAt K C H a ps fs ∧ ∀ H', Same H H' → Q (.int ((ps.length + fs.length : Nat) : Int)) H'
theorem ok_hlen (T : TX K mg) : FnOk P w K mg base CX0 1 T.f_History_len T.fd_History_len pHLen (spHLen K T.C_History) := by
  refine funD_ok T.F_History_len scHLen (fun vs H Q E h => ?_) (fun cdv A outer s H vs Q E hr h => ?_)
  · obtain ⟨a, ps, fs, rfl, _⟩ := h
    rfl
  · obtain ⟨a, ps, fs, rfl, hA, q⟩ := h
    refine ⟨_, pss_one (ps_ret (pe_callB (callLn (K := K)) (by rfl) T.len (by decide +kernel) (pa_cons (pe_op (opCatT (K := K)) (peFld (K := K) (pv 0) rfl) (peFld (K := K) (pv 0) rfl)) pa_nil))), ?_⟩
    walk_at "go"
    have l := hA.len
    refine pastH T.cl_History T.n_History_past hA fun tp hp => ?_
    walk_at "go"
    refine futH T.cl_History T.n_History_future hA fun tf hf => ?_
    refine c_catT hp hf (by rw [List.length_map, List.length_map]; omega) fun t H1 s1 hT => ?_
    walk_at "go"
    (
      refine c_lnT hT ?_; walk_at "go")
    have e : (ps.map V.str ++ fs.map V.str).length = ps.length + fs.length := by rw [List.length_append, List.length_map, List.length_map]
    rw [e]
    exact q H1 s1
theorem c_lenH2 {C a : Addr} {H : Hp} {ps fs : List Str} {Q : VK} {E : XK} (h : HistAt K C H a ps fs) (q : ∀ H', Same H H' → Q (.int ((ps.length + fs.length : Nat) : Int)) H') : rLenO C (spHLen K C) E [.ref a] H Q := by
  obtain ⟨⟨dx, tp, tf, e, _⟩, _, _, l⟩ := id h
  exact ⟨a, dx, _, rfl, e, a, ps, fs, rfl, h, fun H' s => ⟨_, rfl, by omega, q H' s⟩⟩
theorem c_boolH {C a : Addr} {H : Hp} {ps fs : List Str} {Q : VK} {E : XK} (h : HistAt K C H a ps fs) (q : ∀ H', Same H H' → Q (.bl (decide (0 < ps.length + fs.length))) H') : rBoolO C (spHLen K C) E [.ref a] H Q := by
  obtain ⟨⟨dx, tp, tf, e, _⟩, _, _, l⟩ := id h
  exact ⟨a, dx, _, rfl, e, a, ps, fs, rfl, h, fun H' s => ⟨_, rfl, by omega, q H' s⟩⟩
theorem c_lineH {C a : Addr} {H : Hp} {ps fs : List Str} {Q : VK} {E : XK} (h : HistAt K C H a ps fs) (q : ∀ t H', Same H H' → SqT K H' t ((ps ++ fs).map V.str) → Q (.ref t) H') : rPrp C (spLine K C) [] E (.ref a) H Q := recvP h ⟨a, ps, fs, rfl, h, q⟩
theorem shw_bool' (b : Bool) : Shw (.bool b) 5 := by
  refine ⟨by rw [PyData.showable], ?_⟩
  rw [PyData.shown]
  cases b <;> decide
def dShown (ps fs : List Str) : PyData := .list [dNames ps, dNames fs, dNames (ps ++ fs), .int ((ps.length + fs.length : Nat) : Int), .bool (decide (0 < ps.length + fs.length))]
theorem shw_namesN {ns : List Str} (h : ∀ z ∈ ns, IsName z) (l : ns.length ≤ 4000) : Shw (dNames ns) 340000 := (shw_tuple (n := 82) fun d hd => by
  obtain ⟨z, hz, rfl⟩ := List.mem_map.mp hd
  exact shw_name (h z hz)).mono (by rw [List.length_map]; omega)
theorem shown_ok {ps fs : List Str} (h1 : ∀ z ∈ ps, IsName z) (h2 : ∀ z ∈ fs, IsName z) (l : ps.length + fs.length ≤ 4000) : DOk (dShown ps fs) 2 ∧ Shw (dShown ps fs) 2000000 := by
  have h3 : ∀ z ∈ ps ++ fs, IsName z := fun z hz => (List.mem_append.mp hz).elim (h1 z) (h2 z)
  refine ⟨(dok_list (n := 1) fun d hd => ?_).1, (shw_list (n := 340000) fun d hd => ?_).mono (by simp)⟩
  · simp only [List.mem_cons, List.not_mem_nil, or_false] at hd
    rcases hd with rfl | rfl | rfl | rfl | rfl
    · exact dok_names fun z hz => (h1 z hz).low
    · exact dok_names fun z hz => (h2 z hz).low
    · exact dok_names fun z hz => (h3 z hz).low
    · exact (dok_int _).mono (by decide)
    · exact (dok_bool _).mono (by decide)
  · simp only [List.mem_cons, List.not_mem_nil, or_false] at hd
    rcases hd with rfl | rfl | rfl | rfl | rfl
    · exact shw_namesN h1 (by omega)
    · exact shw_namesN h2 (by omega)
    · exact shw_namesN h3 (by rw [List.length_append]; omega)
    · exact (shw_int (by omega) (Int.lt_of_le_of_lt (b := 4000) (by omega) (by decide))).mono (by decide)
    · exact (shw_bool' _).mono (by decide)
def spShown (K : PySem.W.Frag) (C : Addr) : Sp := fun vs H Q _ => ∃ (b t1 t2 : Addr) (ps fs : List Str), vs = [.ref b, .ref t1, .ref t2] ∧ HistAt K C H b ps fs ∧ SqT K H t1 (ps.map V.str) ∧ SqT K H t2 (fs.map V.str) ∧ ∀ H', Same H H' → Q (.bl true) H'
theorem ok_shown (T : TX K mg) : FnG P w K mg base CX0 6 T.f_law_shown_right T.fd_law_shown_right pShown (spShown K T.C_History) := by
  have G_History_line := ok_line (P := P) (w := w) (base := base) T
  have G_History_len := ok_hlen (P := P) (w := w) (base := base) T
  refine okG0 T.d_law_shown_right.F scShown (fun vs H Q E h => ?_) (fun cdv A outer s H vs Q E g hr h => ?_)
  · obtain ⟨b, t1, t2, ps, fs, rfl, _⟩ := h
    rfl
  · obtain ⟨b, t1, t2, ps, fs, rfl, hA, h1, h2, q⟩ := h
    refine ⟨_, pss_cons (ps_set (i := 3) scShown.nd rfl (.inl rfl) (pe_lst (pa_cons (peFld (K := K) (pv 0) rfl) (pa_cons (peFld (K := K) (pv 0) rfl) (pa_cons (pe_prop (pv 0) T.cl_History T.pr_History_line G_History_line (hr.mono (by decide)) T.b_History_line .nil pass0 rfl) (pa_cons (pe_callB (callLenO T.ln_History G_History_len (hr.mono (by decide)) T.b_History_len pass0) (by rfl) T.len (by decide +kernel) (pa_cons (pv 0) pa_nil)) (pa_cons (pe_callTy (callBoolO T.n_History___bool__ T.ln_History G_History_len (hr.mono (by decide)) T.b_History_len pass0) (by rfl) T.bool (by decide +kernel) (pa_cons (pv 0) pa_nil)) pa_nil)))))))
      (pss_one (ps_ret (pe_cmpR op_eq (pe_callB (crRA (K := K) g (L2H.roomH_of hr)) (by rfl) T.repr (by decide +kernel) (pa_cons (pv 3) pa_nil)) (pe_callB (crRA (K := K) g (L2H.roomH_of hr)) (by rfl) T.repr (by decide +kernel) (pa_cons (pe_lst (pa_cons (pv 1) (pa_cons (pv 2) (pa_cons (pe_op (opCatT (K := K)) (pv 1) (pv 2)) (pa_cons (pe_callB (callLn (K := K)) (by rfl) T.len (by decide +kernel) (pa_cons (pe_op (opCatT (K := K)) (pv 1) (pv 2)) pa_nil)) (pa_cons (pe_cmpR (opNeD (K := K) hr.units) (pe_op (opCatT (K := K)) (pv 1) (pv 2)) (pe_tup (pa_nil)) (nomark _)) pa_nil)))))) pa_nil)) (nomark _)))), ?_⟩
    obtain ⟨_, n1, n2, hl⟩ := id hA
    have hn3 : ∀ z ∈ ps ++ fs, IsName z := fun z hz => (List.mem_append.mp hz).elim (n1 z) (n2 z)
    have hcl : (ps.map V.str).length + (fs.map V.str).length ≤ 100000 := by rw [List.length_map, List.length_map]; omega
    walk_at "go"
    refine pastH T.cl_History T.n_History_past hA fun u1 g1 => ?_
    walk_at "go"
    refine futH T.cl_History T.n_History_future hA fun u2 g2 => ?_
    walk_at "go"
    refine c_lineH hA fun u3 H3 s3 g3 => ?_
    have hA3 := hA.mono s3
    walk_at "go"
    refine c_lenH2 hA3 fun H4 s4 => ?_
    have hA4 := hA3.mono s4
    walk_at "go"
    refine c_boolH hA4 fun H5 s5 => ?_
    walk_at "go"
    refine c_newL (by simp) fun L6 H6 _ s6 e6 => ?_
    have s36 := s4.trans (s5.trans s6)
    have s06 := s3.trans s36
    walk_at "go"
    refine c_reprA (rp_of (d := dShown ps fs) (.lst (.inl (.inl e6)) (.cons (dp_names (same_seqT s06 g1)) (.cons (dp_names (same_seqT s06 g2)) (.cons (dp_names (same_seqT s36 g3)) (.cons (.int _) (.cons (.bl _) .nil)))))) (shown_ok n1 n2 hl).1 (by decide) (shown_ok n1 n2 hl).2 (by decide)) ?_
    have h1 := same_seqT s06 h1
    have h2 := same_seqT s06 h2
    walk_at "go"
    refine c_catT h1 h2 hcl fun u4 H7 s7 g4 => ?_
    rw [← List.map_append] at g4
    walk_at "go"
    refine c_catT (same_seqT s7 h1) (same_seqT s7 h2) hcl fun u5 H8 s8 g5 => ?_
    rw [← List.map_append] at g5
    walk_at "go"
    (
      refine c_lnT g5 ?_; walk_at "go")
    rw [List.length_map, List.length_append]
    have s78 := s7.trans s8
    refine c_catT (same_seqT s78 h1) (same_seqT s78 h2) hcl fun u6 H9 s9 g6 => ?_
    rw [← List.map_append] at g6
    walk_at "go"
    refine c_newT (by simp) fun u7 H10 _ s10 e10 => ?_
    refine c_neD (d := dNames (ps ++ fs)) (e := dNames []) (dp_names (same_seqT s10 g6)) (dp_names (.inl (.inl e10))) (dok_names fun z hz => (hn3 z hz).low) (dok_names fun z hz => nomatch hz) (by decide) (by decide) ?_
    rw [eqv_names]
    walk_at "go"
    refine c_newL (by simp) fun L11 H11 _ s11 e11 => ?_
    walk_at "go"
    have hb : (!decide (ps ++ fs = [])) = decide (0 < ps.length + fs.length) := by
      by_cases e : ps ++ fs = []
      · rw [decide_eq_true e]
        have := congrArg List.length e
        rw [List.length_append] at this
        rw [decide_eq_false (by simp at this; simp [this])]
        rfl
      · rw [decide_eq_false e]
        have : 0 < (ps ++ fs).length := List.length_pos_iff.mpr e
        rw [List.length_append] at this
        rw [decide_eq_true this]
        rfl
    rw [hb] at e11
    have s811 := s9.trans (s10.trans s11)
    have s711 := s8.trans s811
    refine c_reprA (rp_of (d := dShown ps fs) (.lst (.inl (.inl e11)) (.cons (dp_names (same_seqT (s7.trans s711) h1)) (.cons (dp_names (same_seqT (s7.trans s711) h2)) (.cons (dp_names (same_seqT s711 g4)) (.cons (.int _) (.cons (.bl _) .nil)))))) (shown_ok n1 n2 hl).1 (by decide) (shown_ok n1 n2 hl).2 (by decide)) ?_
    refine c_eq rfl ?_
    rw [decide_eq_true rfl]
    exact q _ (s06.trans (s7.trans s711))
end
end Und
set_option exponentiation.threshold 4000
namespace Und
open PySem PySem.Spec PyProof.Rows L2 LamX
local macro_rules | `(tactic| walk_at "side") => `(tactic| first | decide | omega | exact ⟨by omega, by omega⟩ | (show (0 : Int) < _; omega) | (exact Or.inl ⟨by omega, by omega⟩) | (exact Or.inr ⟨by omega, by omega⟩) | (exact sz (by simp)) | (exact szl (by simp)))
local macro_rules | `(tactic| walk_at "u") => `(tactic| first
  | with_reducible refine c_seq ?_ | with_reducible refine c_next ?_ | with_reducible refine c_yes ?_ | with_reducible refine c_asg ?_ | with_reducible refine c_asg2 ?_ | with_reducible refine c_par ?_ | with_reducible refine c_two ?_ | with_reducible refine c_g ?_ | with_reducible refine c_gsub ?_ | with_reducible refine c_gcons ?_ | with_reducible refine c_gnil ?_ | with_reducible refine c_ret ?_ | with_reducible refine c_drop ?_
  | ((with_reducible refine c_var (v := ?v) ?h ?_); (case h => rfl)) | with_reducible refine c_c ?_ | with_reducible refine c_op ?_ | with_reducible refine c_un ?_ | with_reducible refine c_I0 ?_
  | ((with_reducible refine c_I ?h ?_); (case h => walk_at "side"))
  | ((with_reducible refine c_eq ?h ?_); (case h => rfl)) | ((with_reducible refine c_neq ?h ?_); (case h => rfl)) | with_reducible refine c_test ?_ | with_reducible refine c_B ?_ | with_reducible refine c_bl ?_ | with_reducible refine c_int ?_ | with_reducible refine c_ifs ?_ | with_reducible refine c_ife ?_
  | with_reducible refine c_andV ?_ | with_reducible refine c_orV ?_ | with_reducible refine c_notV ?_ | with_reducible refine c_and ?_ | with_reducible refine c_or ?_ | with_reducible refine c_not ?_
  | with_reducible refine c_call ?_ | with_reducible refine c_cb ?_ | with_reducible refine c_nil ?_ | with_reducible refine c_cons ?_
  | with_reducible refine c_tup ?_ | with_reducible refine c_lst ?_ | with_reducible refine c_sl ?_ | with_reducible refine c_nop ?_ | with_reducible refine c_part ?_ | with_reducible refine c_fld ?_
  | with_reducible refine c_for ?_ | with_reducible refine c_ilist ?_ | with_reducible refine c_itup ?_ | with_reducible refine c_irng1 ?_ | with_reducible refine c_lc ?_
  | with_reducible refine c_m1 ?_ | with_reducible refine c_isS ?_ | with_reducible refine c_chain ?_ | with_reducible refine c_str ?_ | with_reducible refine c_make ?_ | with_reducible refine c_meth ?_ | with_reducible refine c_prop ?_ | with_reducible refine c_sfld ?_ | with_reducible refine c_ienumT ?_ | with_reducible refine iteT ?_ | with_reducible refine iteF ?_ | with_reducible refine iteNT ?_ | with_reducible refine iteNF ?_
  | ((with_reducible refine iteDT ?h ?_); (case h => first | rfl | omega)) | ((with_reducible refine iteDF ?h ?_); (case h => first | omega | (intro z; cases z; done))) | ((with_reducible refine iteNDT ?h ?_); (case h => first | rfl | omega)) | ((with_reducible refine iteNDF ?h ?_); (case h => first | omega | (intro z; cases z; done))))
local macro_rules | `(tactic| walk_at "go") => `(tactic| repeat (walk_at "u"))
local macro_rules | `(tactic| walk_at "u") => `(tactic| first | with_reducible refine c_bmE ?_ | with_reducible refine c_cmeth ?_)
section
variable {P : Program} {w : World} {K : PySem.W.Frag} {mg : Str → Option Value} {base : Heap}
theorem seqT_hid {F a : Addr} {H : Hp} {l xs : List V} (e : H F = some (.lst l)) (h : SqT K H a xs) : SqT K (hid F H) a xs := by
  rcases h with (h | ⟨o, h⟩) | h
  · exact .inl (.inl ((hid_ne (ne_of h e (by intro z; cases z))).trans h))
  · exact .inl (.inr ⟨o, (hid_ne (ne_of h e (by intro z; cases z))).trans h⟩)
  · exact .inr h
/-- a row of the law's list: a value that makes no history, and what is told of it -/
def RowAt (K : PySem.W.Frag) (H : Hp) (r : V) : Prop := ∃ (l : Addr) (v w : V) (x : Str), r = .ref l ∧ H l = some (.lst [v, .str x]) ∧ BadN K H v w ∧ Rp K H w x ∧ PyData.strOk x = true
theorem RowAt.mono {H H' : Hp} {r : V} (s : Same H H') (h : RowAt K H r) : RowAt K H' r := by
  obtain ⟨l, v, w, x, e, h1, h2, h3, h4⟩ := h
  exact ⟨l, v, w, x, e, s _ _ h1, h2.mono s, h3.mono s, h4⟩
theorem RowAt.ext {H H' : Hp} {r : V} (s : ExtN H H') (h : RowAt K H r) : RowAt K H' r := by
  obtain ⟨l, v, w, x, e, h1, h2, h3, h4⟩ := h
  exact ⟨l, v, w, x, e, s _ _ h1 (fun ps z => by cases z), h2.ext s, h3.ext s, h4⟩
theorem bad_t {H : Hp} {v : V} {t : String} (ty : TyX K H v (.type t)) (k : kitB t "tuple" = some false) : BadN K H v .non := .inl ⟨_, ty, kit_ty k, rfl⟩
theorem nm_no {H : Hp} {v : V} {t : String} (ty : TyX K H v (.type t)) (k : kitB t "str" = some false) : NmQ K H v false := .inr ⟨_, ty, kit_ty k, rfl⟩
theorem nm_str {H : Hp} {z : Str} (k : z.length ≤ 8 ∧ (Txt.isascii z && (Txt.isalpha z && Txt.islower z)) = false ∨ (9 ≤ z.length ∧ z.length ≤ 1000)) : NmQ K H (.str z) false := by
  rcases k with ⟨h1, h2⟩ | ⟨h1, h2⟩
  · exact .inl ⟨z, rfl, by omega, .inr (.inr ⟨h1, h2, rfl⟩)⟩
  · exact .inl ⟨z, rfl, h2, .inr (.inl ⟨h1, rfl⟩)⟩
theorem num_ok : ∀ k : Nat, k < 13 → PyData.strOk (toString (k : Int)) = true := by decide +kernel
def spBad (K : PySem.W.Frag) : Sp := fun vs H Q _ => ∃ (p c : Addr) (ns : List Str), vs = [.ref p, .ref c] ∧ Pool H p ∧ SqT K H c (ns.map V.str) ∧ (∀ z ∈ ns, IsName z) ∧ ns.length ≤ 12 ∧
  ∀ F rows H', Stp p H H' → H' F = some (.lst rows) → rows.length = 20 → (∀ r ∈ rows, RowAt K H' r) → Q (.ref F) H'
theorem ok_bad (T : TX K mg) : FnG P w K mg base CX0 3 T.f_law_bad T.fd_law_bad pBad (spBad K) := by
  have G_law_draw := ok_draw (P := P) (w := w) (K := K) (base := base) T.d_law_draw T.divmod
  refine okG0 T.d_law_bad.F scBad (fun vs H Q E h => ?_) (fun cdv A outer s H vs Q E g hr h => ?_)
  · obtain ⟨p, c, ns, rfl, _⟩ := h
    rfl
  · obtain ⟨p, c, ns, rfl, pool, hc, hn, hl, q⟩ := h
    refine ⟨_, pss_cons (ps_set (i := 2) scBad.nd rfl (.inl rfl) (pcall T.d_law_draw G_law_draw (hr.mono (by decide)) (by rfl) pass0 (pa_cons (pv 0) (pa_cons (pe_op op_add (pe_callB (callLn (K := K)) (by rfl) T.len (by decide +kernel) (pa_cons (pv 1) pa_nil)) (pe_int)) pa_nil))))
      (pss_cons (ps_set (i := 3) scBad.nd rfl (.inl rfl) (pe_lst (pa_cons (pe_lst (pa_cons (pe_non) (pa_cons (pe_str) pa_nil))) (pa_cons (pe_lst (pa_cons (pe_int) (pa_cons (pe_str) pa_nil))) (pa_cons (pe_lst (pa_cons (pe_str) (pa_cons (pe_str) pa_nil))) (pa_cons (pe_lst (pa_cons (pe_callTy (callLstOf (K := K)) (by rfl) T.list (by decide +kernel) (pa_cons (pv 1) pa_nil)) (pa_cons (pe_str) pa_nil))) (pa_cons (pe_lst (pa_cons (pe_dnewK) (pa_cons (pe_str) pa_nil))) (pa_cons (pe_lst (pa_cons (pe_bl) (pa_cons (pe_str) pa_nil))) pa_nil))))))))
      (pss_cons (ps_for PassesOwn.never rfl (piList (K := K) (pe_lst (pa_cons (pe_non) (pa_cons (pe_int) (pa_cons (pe_bl) (pa_cons (pe_str) (pa_cons (pe_str) (pa_cons (pe_str) (pa_cons (pe_str) (pa_cons (pe_str) (pa_cons (pe_str) (pa_cons (pe_tup (pa_cons (pe_str) pa_nil)) (pa_cons (pe_lst (pa_cons (pe_str) pa_nil)) (pa_cons (pe_dnewK) (pa_cons (pe_tup (pa_nil)) (pa_cons (pe_tup (pa_cons (pe_lst (pa_nil)) pa_nil)) pa_nil)))))))))))))))) (pg_name (i := 4) scBad.nd rfl (.inl rfl))
        (pss_one (ps_expr (pe_bm PySem.F.plainAttrs_list PySem.F.slot_list_append PySem.F.type_list_append mt_append (pv 3) (pa_cons (pe_lst (pa_cons (pe_op (opCatT (K := K)) (pe_op (opCatT (K := K)) (pe_slice (slT (K := K)) (pv 1) po_none (po_some (pv 2))) (pe_tup (pa_cons (pv 4) (pa_cons (pe_non) pa_nil)))) (pe_slice (slT (K := K)) (pv 1) (po_some (pv 2)) po_none)) (pa_cons (pe_callB (crRA (K := K) g (L2H.roomH_of hr)) (by rfl) T.repr (by decide +kernel) (pa_cons (pv 2) pa_nil)) pa_nil))) pa_nil)))))
      (pss_one (ps_ret (pv 3))))), ?_⟩
    walk_at "go"
    (
      refine c_lnT hc ?_; walk_at "go")
    rw [List.length_map]
    refine c_draw pool (by omega) (by omega) fun at_ H1 a0 a1 st1 => ?_
    obtain ⟨k, rfl, hk⟩ : ∃ k : Nat, at_ = (k : Int) ∧ k ≤ ns.length := ⟨at_.toNat, by omega, by omega⟩
    have hc := pool_stayT pool st1 hc
    clear a0 a1
    walk_at "go"
    refine c_newL (by simp) fun r1 G1 _ s1 e1 => ?_
    walk_at "go"
    refine c_newL (by simp) fun r2 G2 _ s2 e2 => ?_
    walk_at "go"
    refine c_newL (by simp) fun r3 G3 _ s3 e3 => ?_
    walk_at "go"
    refine c_lstOfT (same_seqT (s1.trans (s2.trans s3)) hc) fun lc G4 _ s4 e4 => ?_
    walk_at "go"
    refine c_newL (by simp) fun r4 G5 _ s5 e5 => ?_
    walk_at "go"
    refine c_dnew fun dd G6 _ s6 e6 => ?_
    walk_at "go"
    refine c_newL (by simp) fun r5 G7 _ s7 e7 => ?_
    walk_at "go"
    refine c_newL (by simp) fun r6 G8 _ s8 e8 => ?_
    walk_at "go"
    refine c_newL (by simp) fun F G9 nF s9 e9 => ?_
    have t8 := s8
    have t7 := s7.trans t8
    have t6 := s6.trans t7
    have t5 := s5.trans t6
    have t4 := s4.trans t5
    have t3 := s3.trans t4
    have t2 := s2.trans t3
    have t1 := s1.trans t2
    have hrows : ∀ r ∈ [V.ref r1, V.ref r2, V.ref r3, V.ref r4, V.ref r5, V.ref r6], RowAt K G8 r := fun r hr => by
      simp only [List.mem_cons, List.not_mem_nil, or_false] at hr
      rcases hr with rfl | rfl | rfl | rfl | rfl | rfl
      · exact ⟨r1, _, .non, _, rfl, t2 _ _ e1, bad_t (.base .non) (by decide +kernel), .non, by decide +kernel⟩
      · exact ⟨r2, _, .non, _, rfl, t3 _ _ e2, bad_t (.base (.int _)) (by decide +kernel), .non, by decide +kernel⟩
      · exact ⟨r3, _, .non, _, rfl, t4 _ _ e3, bad_t (.base (.str _)) (by decide +kernel), .non, by decide +kernel⟩
      · exact ⟨r4, _, .non, _, rfl, t6 _ _ e5, bad_t (.base (.lst (t5 _ _ e4))) (by decide +kernel), .non, by decide +kernel⟩
      · exact ⟨r5, _, .non, _, rfl, t8 _ _ e7, bad_t (.base (.dK (t7 _ _ e6))) (by decide +kernel), .non, by decide +kernel⟩
      · exact ⟨r6, _, .non, _, rfl, e8, bad_t (.base (.bl _)) (by decide +kernel), .non, by decide +kernel⟩
    have hc := same_seqT t1 hc
    have y9 : Same G8 (hid F G9) := fun b o e => (hid_ne (ne_of_none e nF)).trans (s9 b o e)
    have hrows : ∀ r ∈ [V.ref r1, V.ref r2, V.ref r3, V.ref r4, V.ref r5, V.ref r6], RowAt K (hid F G9) r := fun r hr => (hrows r hr).mono y9
    have hc := same_seqT y9 hc
    have z9 : Same H1 (hid F G9) := t1.trans y9
    clear e1 e2 e3 e4 e5 e6 e7 e8 s1 s2 s3 s4 s5 s6 s7 s8 s9 t1 t2 t3 t4 t5 t6 t7 t8 y9 nF
    generalize hrs : [V.ref r1, V.ref r2, V.ref r3, V.ref r4, V.ref r5, V.ref r6] = rows at *
    have hrl : rows.length = 6 := by rw [← hrs]; rfl
    clear hrs
    walk_at "go"
    refine c_newT (by simp) fun u1 J1 _ s1 e1 => ?_
    walk_at "go"
    refine c_newL (by simp) fun u2 J2 _ s2 e2 => ?_
    walk_at "go"
    refine c_dnew fun u3 J3 _ s3 e3 => ?_
    walk_at "go"
    refine c_newT (by simp) fun u4 J4 _ s4 e4 => ?_
    walk_at "go"
    refine c_newL (by simp) fun u5 J5 _ s5 e5 => ?_
    walk_at "go"
    refine c_newT (by simp) fun u6 J6 _ s6 e6 => ?_
    walk_at "go"
    refine c_newL (by simp) fun M J7 nM s7 e7 => ?_
    have t7 := s7
    have t6 := s6.trans t7
    have t5 := s5.trans t6
    have t4 := s4.trans t5
    have t3 := s3.trans t4
    have t2 := s2.trans t3
    have t1 := s1.trans t2
    have eF := t1 _ _ e9
    have nF : ∀ {b : Addr} {o : HO}, J7 b = some o → o ≠ .lst rows → hid F J7 b = some o := fun {b o} e n => (hid_ne (ne_of e eF n)).trans e
    have eM : hid F J7 M = _ := nF e7 (by intro z; have := congrArg List.length (HO.lst.inj z); rw [hrl] at this; simp at this)
    have e1 := nF (t2 _ _ e1) (by intro z; cases z)
    have e2 := nF (t3 _ _ e2) (by intro z; have := congrArg List.length (HO.lst.inj z); rw [hrl] at this; simp at this)
    have e3 := nF (t4 _ _ e3) (by intro z; cases z)
    have e4 := nF (t5 _ _ e4) (by intro z; cases z)
    have e6 := nF (t7 _ _ e6) (by intro z; cases z)
    have hodd : ∀ v ∈ [V.non, V.int 0, V.bl true, V.str "", V.str "A", V.str "abcdefghi", V.str "a b", V.str "a1", V.str "a-b", V.ref u1, V.ref u2, V.ref u3, V.ref u4, V.ref u6], NmQ K (hid F J7) v false := fun v hv => by
      simp only [List.mem_cons, List.not_mem_nil, or_false] at hv
      rcases hv with rfl | rfl | rfl | rfl | rfl | rfl | rfl | rfl | rfl | rfl | rfl | rfl | rfl | rfl
      · exact nm_no (.base .non) (by decide +kernel)
      · exact nm_no (.base (.int _)) (by decide +kernel)
      · exact nm_no (.base (.bl _)) (by decide +kernel)
      · exact nm_str (by decide +kernel)
      · exact nm_str (by decide +kernel)
      · exact nm_str (by decide +kernel)
      · exact nm_str (by decide +kernel)
      · exact nm_str (by decide +kernel)
      · exact nm_str (by decide +kernel)
      · exact nm_no (.base (.tup e1)) (by decide +kernel)
      · exact nm_no (.base (.lst e2)) (by decide +kernel)
      · exact nm_no (.base (.dK e3)) (by decide +kernel)
      · exact nm_no (.base (.tup e4)) (by decide +kernel)
      · exact nm_no (.base (.tup e6)) (by decide +kernel)
    have y7 : Same (hid F G9) (hid F J7) := hid_mono t1
    have hrows : ∀ r ∈ rows, RowAt K (hid F J7) r := fun r hr => (hrows r hr).mono y7
    have hc := same_seqT y7 hc
    have z7 := z9.trans y7
    clear e1 e2 e3 e4 e5 e6 e7 e9 s1 s2 s3 s4 s5 s6 s7 t1 t2 t3 t4 t5 t6 t7 y7 z9 nF nM
    generalize hvs : [V.non, V.int 0, V.bl true, V.str "", V.str "A", V.str "abcdefghi", V.str "a b", V.str "a1", V.str "a-b", V.ref u1, V.ref u2, V.ref u3, V.ref u4, V.ref u6] = odds at *
    have hvl : odds.length = 14 := by rw [← hvs]; rfl
    clear hvs
    walk_at "go"
    refine ⟨_, rfl, ⟨_, .inl (.inl (hid_same F J7 _ _ eM))⟩, ?_⟩
    refine for_list (xs := odds) (fun i σ G => ∃ (y : Option V) (rs : List V), σ = [some (.ref p), some (.ref c), some (.int (k : Int)), some (.ref F), y] ∧ Same (hid F J7) (hid F G) ∧ G F = some (.lst rs) ∧ rs.length = 6 + i ∧ ∀ r ∈ rs, RowAt K (hid F G) r)
      ⟨_, rows, rfl, .refl _, eF, hrl, hrows⟩ (fun i σ G _ h => ?_) (fun i v σ G hv h => ?_) (fun σ G h => ?_)
    · obtain ⟨y, rs, rfl, sx, _⟩ := h
      exact .inl (.inl (hid_same F G _ _ (sx _ _ eM)))
    · obtain ⟨y, rs, rfl, sx, eF, hrl, hrows⟩ := h
      have hno := (hodd v (List.mem_of_getElem? hv)).mono sx
      have hil : i < odds.length := (List.getElem?_eq_some_iff.mp hv).1
      have hcG := same_seqT (sx.trans (hid_same F G)) hc
      walk_at "go"
      refine ⟨tyv_lst eF, ?_⟩
      walk_at "go"
      refine c_slT hcG fun w1 L1 m1 h1 => ?_
      rw [(cut_past _ k).1, ← List.map_take] at h1
      walk_at "go"
      refine c_newT (by simp) fun w2 L2 _ m2 h2 => ?_
      refine c_catT (same_seqT m2 h1) (.inl (.inl h2)) (by rw [List.length_map, List.length_take]; simp; omega) fun w3 L3 m3 h3 => ?_
      walk_at "go"
      refine c_slT (same_seqT (m1.trans (m2.trans m3)) hcG) fun w4 L4 m4 h4 => ?_
      rw [(cut_past _ k).2, ← List.map_drop] at h4
      refine c_catT (same_seqT m4 h3) h4 (by simp only [List.length_append, List.length_map, List.length_take, List.length_drop, List.length_cons, List.length_nil]; omega) fun w5 L5 m5 h5 => ?_
      walk_at "go"
      refine c_reprA (.int k (by
        have : ((k : Int)).natAbs = k := rfl
        rw [this]
        exact Nat.lt_of_le_of_lt (Nat.log2_le_self k) (by omega))) ?_
      walk_at "go"
      refine c_newL (by simp) fun l L6 nl m6 h6 => ?_
      have m16 := m1.trans (m2.trans (m3.trans (m4.trans (m5.trans m6))))
      have eF6 := m16 _ _ eF
      walk_at "go"
      refine c_appE eF6 (by omega) ?_
      have sh : Same (hid F G) (hid F (upd L6 F (.lst (rs ++ [.ref l])))) := (hid_mono m16).trans hid_upd
      have lF : l ≠ F := fun z => by
        have := (m1.trans (m2.trans (m3.trans (m4.trans m5)))) _ _ eF
        rw [← z, nl] at this
        cases this
      refine ⟨_, rs ++ [.ref l], rfl, sx.trans sh, upd_same, by rw [List.length_append, hrl]; rfl, fun r hr => ?_⟩
      rcases List.mem_append.mp hr with hr | hr
      · exact (hrows r hr).mono sh
      · have : r = .ref l := by simpa using hr
        rw [this]
        have h5 : SqT K (hid F (upd L6 F (.lst (rs ++ [.ref l])))) w5 _ := same_seqT hid_upd (seqT_hid eF6 (same_seqT m6 h5))
        refine ⟨l, .ref w5, .int k, _, rfl, (hid_ne lF).trans ((upd_ne lF).trans h6), .inr ⟨w5, _, k, v, rfl, h5, ?_, hno.mono sh, fun j y hj hy => ?_, rfl⟩, .int k (by
          have : ((k : Int)).natAbs = k := rfl
          rw [this]
          exact Nat.lt_of_le_of_lt (Nat.log2_le_self k) (by omega)), num_ok k (by omega)⟩
        · rw [List.append_assoc, List.getElem?_append_right (by rw [List.length_map, List.length_take]; omega), List.length_map, List.length_take, Nat.min_eq_left hk, Nat.sub_self]
          rfl
        · rw [List.append_assoc, List.getElem?_append_left (by rw [List.length_map, List.length_take]; omega)] at hy
          obtain ⟨z, rfl, hz⟩ := str_at hy
          exact ⟨z, rfl, hn z (List.mem_of_mem_take hz)⟩
    · obtain ⟨y, rs, rfl, sx, eF, hrl, hrows⟩ := h
      walk_at "go"
      exact q F rs G (st1.trans (.of st1.q ((z7.trans sx).trans (hid_same F G)))) eF (by omega) fun r hr => (hrows r hr).mono (hid_same F G)
end
end Und
set_option exponentiation.threshold 4000
namespace Und
open PySem PySem.Spec PyProof.Rows L2 LamX
local macro_rules | `(tactic| walk_at "side") => `(tactic| first | decide | omega | exact ⟨by omega, by omega⟩ | (show (0 : Int) < _; omega) | (exact Or.inl ⟨by omega, by omega⟩) | (exact Or.inr ⟨by omega, by omega⟩) | (exact sz (by simp)) | (exact szl (by simp)))
local macro_rules | `(tactic| walk_at "u") => `(tactic| first
  | with_reducible refine c_seq ?_ | with_reducible refine c_next ?_ | with_reducible refine c_yes ?_ | with_reducible refine c_asg ?_ | with_reducible refine c_asg2 ?_ | with_reducible refine c_par ?_ | with_reducible refine c_two ?_ | with_reducible refine c_g ?_ | with_reducible refine c_gsub ?_ | with_reducible refine c_gcons ?_ | with_reducible refine c_gnil ?_ | with_reducible refine c_ret ?_ | with_reducible refine c_drop ?_
  | ((with_reducible refine c_var (v := ?v) ?h ?_); (case h => rfl)) | with_reducible refine c_c ?_ | with_reducible refine c_op ?_ | with_reducible refine c_un ?_ | with_reducible refine c_I0 ?_
  | ((with_reducible refine c_I ?h ?_); (case h => walk_at "side"))
  | ((with_reducible refine c_eq ?h ?_); (case h => rfl)) | ((with_reducible refine c_neq ?h ?_); (case h => rfl)) | with_reducible refine c_test ?_ | with_reducible refine c_B ?_ | with_reducible refine c_bl ?_ | with_reducible refine c_int ?_ | with_reducible refine c_ifs ?_ | with_reducible refine c_ife ?_
  | with_reducible refine c_andV ?_ | with_reducible refine c_orV ?_ | with_reducible refine c_notV ?_ | with_reducible refine c_and ?_ | with_reducible refine c_or ?_ | with_reducible refine c_not ?_
  | with_reducible refine c_call ?_ | with_reducible refine c_cb ?_ | with_reducible refine c_nil ?_ | with_reducible refine c_cons ?_
  | with_reducible refine c_tup ?_ | with_reducible refine c_lst ?_ | with_reducible refine c_sl ?_ | with_reducible refine c_nop ?_ | with_reducible refine c_part ?_ | with_reducible refine c_fld ?_
  | with_reducible refine c_for ?_ | with_reducible refine c_ilist ?_ | with_reducible refine c_itup ?_ | with_reducible refine c_irng1 ?_ | with_reducible refine c_lc ?_
  | with_reducible refine c_m1 ?_ | with_reducible refine c_isS ?_ | with_reducible refine c_chain ?_ | with_reducible refine c_str ?_ | with_reducible refine c_make ?_ | with_reducible refine c_meth ?_ | with_reducible refine c_prop ?_ | with_reducible refine c_sfld ?_ | with_reducible refine c_ienumT ?_ | with_reducible refine iteT ?_ | with_reducible refine iteF ?_ | with_reducible refine iteNT ?_ | with_reducible refine iteNF ?_
  | ((with_reducible refine iteDT ?h ?_); (case h => first | rfl | omega)) | ((with_reducible refine iteDF ?h ?_); (case h => first | omega | (intro z; cases z; done))) | ((with_reducible refine iteNDT ?h ?_); (case h => first | rfl | omega)) | ((with_reducible refine iteNDF ?h ?_); (case h => first | omega | (intro z; cases z; done))))
local macro_rules | `(tactic| walk_at "go") => `(tactic| repeat (walk_at "u"))
local macro_rules | `(tactic| walk_at "u") => `(tactic| first | with_reducible refine c_bmE ?_ | with_reducible refine c_cmeth ?_)
section
variable {P : Program} {w : World} {K : PySem.W.Frag} {mg : Str → Option Value} {base : Heap}
theorem nm_ba : ∀ z ∈ (["b", "a", "b"] : List Str), IsName z := fun z hz => by
  simp only [List.mem_cons, List.not_mem_nil, or_false] at hz
  rcases hz with rfl | rfl | rfl <;> exact name_of (by decide +kernel)
theorem dok_due {x : Str} (h : PyData.strOk x = true) : DOk (.list [.int 1, .str x]) 1 := dok_pair (dok_int 1) (dok_str h)
theorem dp_due {H : Hp} {p : Addr} {x : Str} (e : H p = some (.lst [.int 1, .str x])) : Dp K H (.ref p) (.list [.int 1, .str x]) := .lst (.inl (.inl e)) (.cons (.int 1) (.cons (.str x) .nil))
theorem num0 : (toString ((0 : Nat) : Int) : Str) = "0" := by decide +kernel
theorem num1 : (toString ((1 : Nat) : Int) : Str) = "1" := by decide +kernel
theorem rp_num {H : Hp} (i : Nat) (hi : i < 13) : Rp K H (.int (i : Int)) (toString (i : Int) : Str) := .int i (by
  have : ((i : Int)).natAbs = i := rfl
  rw [this]
  exact Nat.lt_of_le_of_lt (Nat.log2_le_self i) (by omega))
theorem rsd_cgt (T : TX K mg) {H : Hp} {Q : VK} {i : Nat} {x : Str} (hi : i < 13) (ex : (toString (i : Int) : Str) = x) (q : ∀ p H', Same H H' → H' p = some (.lst [.int 1, .str x]) → Q (.ref p) H') : Rsd T.C_InvalidNames "index" (.int (i : Int)) H (Cgt K (errL T) Q) :=
  fun d H' nd s ed => ⟨T.C_InvalidNames, _, x, d, rfl, ek_InvalidNames T, rfl, ed, T.nf_InvalidNames, ex ▸ rp_num i hi, fun p H'' s' e' => q p H'' (s.trans s') e'⟩
theorem c_hofX {C CE : Addr} {H : Hp} {Q : VK} {E : XK} {vs us : List V} {i : Nat} {v : V} (ev : vs = .ref C :: us) (hl : us.length ≤ 1000) (hx : us[i]? = some v) (hno : NmQ K H v false) (hyes : ∀ (j : Nat) y, j < i → us[j]? = some y → ∃ z, y = .str z ∧ IsName z) (q : Rsd CE "index" (.int (i : Int)) H E) : spStar 1 (spHOfX K C CE) vs H Q E :=
  ⟨[.ref C], us, ev, rfl, sz (by omega), fun p np => ⟨p, _, rfl, .inr ⟨p, us, i, v, rfl, .inl (.inl upd_same), hx, hno.mono (same_new np), hyes, rfl⟩, Rsd.from (same_new np) q⟩⟩
theorem c_hof0 {C : Addr} {H : Hp} {Q : VK} {E : XK} {ns : List Str} {vs : List V} (ev : vs = .ref C :: ns.map V.str) (hz : ∀ z ∈ ns, IsName z) (hl : ns.length ≤ 1000) (q : ∀ r H', Same H H' → HistAt K C H' r ns [] → Q (.ref r) H') : spStar 1 (spHOf K C) vs H Q E :=
  ⟨[.ref C], ns.map V.str, ev, rfl, sz (by rw [List.length_map]; omega), fun p np => ⟨p, ns, rfl, .inl (.inl upd_same), hz, hl, fun r H' s hR => q r H' ((same_new np).trans s) hR⟩⟩
def spOfR (T : TX K mg) : Sp := fun vs H Q _ => vs = [] ∧ Tabs (tS T) H ∧ ∀ H', ExtN H H' → Tabs (tS T) H' → Q (.bl true) H'
theorem ok_ofright (T : TX K mg) (lt : LTab base mg (tS T) "_law_of_right" T.c_law_of_right T.P_law_of_right) : FnG P w K mg base CX0 13 T.f_law_of_right T.fd_law_of_right pOfRight (spOfR T) := by
  have GX_History_of := ok_hofX (P := P) (w := w) (base := base) T
  have G_History_of := ok_hof (P := P) (w := w) (base := base) T
  have G_law_shown_right := ok_shown (P := P) (w := w) (base := base) T
  refine okC T.dc_law_of_right scOfRight (fun vs H Q E h => ?_) (fun A outer s H vs Q E g hr h => ?_)
  · obtain ⟨rfl, _⟩ := h
    rfl
  · obtain ⟨rfl, TT, q⟩ := h
    refine ⟨_, pss_cons (ps_for PassesOwn.never rfl (piList (K := K) (pe_lst (pa_cons (pe_tup (pa_cons (pe_str) (pa_cons (pe_str) pa_nil))) (pa_cons (pe_tup (pa_cons (pe_non) (pa_cons (pe_str) pa_nil))) (pa_cons (pe_tup (pa_cons (pe_str) (pa_cons (pe_str) pa_nil))) (pa_cons (pe_tup (pa_cons (pe_tup (pa_cons (pe_str) pa_nil)) (pa_cons (pe_str) pa_nil))) pa_nil)))))) (pgTup (K := K) (n := 2) (by rfl) (pgs_cons (pg_name (i := 0) scOfRight.nd rfl (.inr rfl)) (pgs_cons (pg_name (i := 1) scOfRight.nd rfl (.inl rfl)) pgs_nil)))
        (pss_cons (ps_if (pt_cmpR (opNeD (K := K) hr.units) (lamD (k := 9) T.d_law_caught scCaught rfl (.inl rfl) (gives_law_caught T g (L2H.roomH_of (k := 3) (hr.mono (by decide)))) lt.tb rfl lt.mem lt.uq (hr.mono (by decide)) (by rfl) (lamS_by (show lamSB (defScope sOfRight) _ = true by decide +kernel)) rfl (fun _ _ _ _ _ => rfl) (fun A outer s H E f c' hr => ClX.pe_cmeth (pe_glob (v := .ref T.C_History) rfl T.m_History rfl) T.cr_History T.cm_History_of GX_History_of (hr.mono (by decide)) (passX (E := E)) (pa_cons (pv 0) (pa_cons (pe_str) pa_nil)))) (pe_lst (pa_cons (pe_int) (pa_cons (pv 1) pa_nil))) (nomark _)) (pss_one (ps_ret (pe_bl))) (pss_nil))
      (pss_one (ps_if (pt_cmpR (opNeD (K := K) hr.units) (lamD (k := 9) T.d_law_caught scCaught rfl (.inl rfl) (gives_law_caught T g (L2H.roomH_of (k := 3) (hr.mono (by decide)))) lt.tb rfl lt.mem lt.uq (hr.mono (by decide)) (by rfl) (lamS_by (show lamSB (defScope sOfRight) _ = true by decide +kernel)) rfl (fun _ _ _ _ _ => rfl) (fun A outer s H E f c' hr => ClX.pe_cmeth (pe_glob (v := .ref T.C_History) rfl T.m_History rfl) T.cr_History T.cm_History_of GX_History_of (hr.mono (by decide)) (passX (E := E)) (pa_cons (pe_str) (pa_cons (pv 0) (pa_cons (pe_non) pa_nil))))) (pe_lst (pa_cons (pe_int) (pa_cons (pe_str) pa_nil))) (nomark _)) (pss_one (ps_ret (pe_bl))) (pss_nil)))))
      (pss_cons (ps_set (i := 2) scOfRight.nd rfl (.inl rfl) (pe_tup (pa_cons (pe_str) (pa_cons (pe_str) (pa_cons (pe_str) pa_nil)))))
      (pss_one (ps_ret (pe_and (pcallG T.d_law_shown_right G_law_shown_right g (hr.mono (by decide)) (by rfl) pass0 (pa_cons (pe_cmeth0 (pe_glob (v := .ref T.C_History) rfl T.m_History rfl) T.cr_History T.cm_History_of G_History_of (hr.mono (by decide)) pass0) (pa_cons (pe_tup (pa_nil)) (pa_cons (pe_tup (pa_nil)) pa_nil)))) (pe_one (pcallG T.d_law_shown_right G_law_shown_right g (hr.mono (by decide)) (by rfl) pass0 (pa_cons (ClX.pe_cmeth (pe_glob (v := .ref T.C_History) rfl T.m_History rfl) T.cr_History T.cm_History_of G_History_of (hr.mono (by decide)) pass0 (pa_cons (pe_str) (pa_cons (pe_str) (pa_cons (pe_str) pa_nil)))) (pa_cons (pv 2) (pa_cons (pe_tup (pa_nil)) pa_nil))))))))), ?_⟩
    walk_at "go"
    refine c_newT (by simp) fun t1 H1 _ s1 e1 => ?_
    walk_at "go"
    refine c_newT (by simp) fun t2 H2 _ s2 e2 => ?_
    walk_at "go"
    refine c_newT (by simp) fun t3 H3 _ s3 e3 => ?_
    walk_at "go"
    refine c_newT (by simp) fun u4 H4 _ s4 e4 => ?_
    walk_at "go"
    refine c_newT (by simp) fun t4 H5 _ s5 e5 => ?_
    walk_at "go"
    refine c_newL (by simp) fun L1 H6 _ s6 e6 => ?_
    have e1 := s6 _ _ (s5 _ _ (s4 _ _ (s3 _ _ (s2 _ _ e1))))
    have e2 := s6 _ _ (s5 _ _ (s4 _ _ (s3 _ _ e2)))
    have e3 := s6 _ _ (s5 _ _ (s4 _ _ e3))
    have e4 := s6 _ _ (s5 _ _ e4)
    have e5 := s6 _ _ e5
    have s06 := s1.trans (s2.trans (s3.trans (s4.trans (s5.trans s6))))
    have TT := TT.ext s06
    have hodd : ∀ r ∈ [V.ref t1, V.ref t2, V.ref t3, V.ref t4], ∃ (a : Addr) (v : V), r = .ref a ∧ H6 a = some (.tup [v, .str "0"]) ∧ NmQ K H6 v false := fun r hr => by
      simp only [List.mem_cons, List.not_mem_nil, or_false] at hr
      rcases hr with rfl | rfl | rfl | rfl
      · exact ⟨t1, _, rfl, e1, nm_str (by decide +kernel)⟩
      · exact ⟨t2, _, rfl, e2, nm_no (.base .non) (by decide +kernel)⟩
      · exact ⟨t3, _, rfl, e3, nm_str (by decide +kernel)⟩
      · exact ⟨t4, _, rfl, e5, nm_no (.base (.tup e4)) (by decide +kernel)⟩
    clear e1 e2 e3 e4 e5
    generalize hxs : [V.ref t1, V.ref t2, V.ref t3, V.ref t4] = xs at e6 hodd
    walk_at "go"
    refine ⟨_, rfl, ⟨_, .inl (.inl e6)⟩, ?_⟩
    refine for_list (xs := xs) (fun _ σ G => ∃ y0 y1 y2 : Option V, σ = [y0, y1, y2] ∧ ExtN H6 G ∧ Tabs (tS T) G) ⟨_, _, _, rfl, .refl _, TT⟩ (fun i σ G _ h => ?_) (fun i v σ G hv h => ?_) (fun σ G h => ?_)
    · obtain ⟨y0, y1, y2, rfl, x0, _⟩ := h
      exact ExtN.seq x0 (.inl (.inl e6))
    · obtain ⟨y0, y1, y2, rfl, x0, TT⟩ := h
      obtain ⟨a, v, rfl, ea, hno⟩ := hodd v (List.mem_of_getElem? hv)
      have ea := x0 _ _ ea fun ps z => by cases z
      have hno := hno.ext x0
      refine c_gtup (.inl (.inl ea)) rfl ?_
      walk_at "go"
      refine c_lam TT fun G1 x1 TT1 => ?_
      refine c_caught ?_
      walk_at "go"
      refine ⟨rfl, ?_⟩
      walk_at "go"
      refine c_hofX (us := [v, .str "b"]) (i := 0) rfl (by simp) rfl (hno.ext x1) (fun j y hj => by omega) (rsd_cgt T (by decide) num0 fun p G2 s2 e2 => ?_)
      walk_at "go"
      refine c_newL (by simp) fun p2 G3 _ s3 e3 => ?_
      refine c_neD1 (d := .list [.int 1, .str "0"]) (dp_due (s3 _ _ e2)) (dp_due e3) (dok_due (by decide +kernel)) (by decide) ?_
      have y1 : Same G1 G3 := s2.trans s3
      have TT := TT1.ext y1
      have x01 := x1.trans (.of y1)
      have hno := hno.ext x01
      have x0 := x0.trans x01
      clear e2 e3 s2 s3 y1 x1 TT1 x01
      walk_at "go"
      refine c_lam TT fun G1 x1 TT1 => ?_
      refine c_caught ?_
      walk_at "go"
      refine ⟨rfl, ?_⟩
      walk_at "go"
      refine c_hofX (us := [.str "b", v, .non]) (i := 1) rfl (by simp) rfl (hno.ext x1) (fun j y hj hy => ?_) (rsd_cgt T (by decide) num1 fun p G2 s2 e2 => ?_)
      · obtain rfl : j = 0 := by omega
        exact ⟨"b", (Option.some.inj hy).symm, nm_ba _ (by simp)⟩
      walk_at "go"
      refine c_newL (by simp) fun p2 G3 _ s3 e3 => ?_
      refine c_neD1 (d := .list [.int 1, .str "1"]) (dp_due (s3 _ _ e2)) (dp_due e3) (dok_due (by decide +kernel)) (by decide) ?_
      have y1 : Same G1 G3 := s2.trans s3
      walk_at "go"
      exact ⟨_, _, _, rfl, x0.trans (x1.trans (.of y1)), TT1.ext y1⟩
    obtain ⟨y0, y1, y2, rfl, x0, TT⟩ := h
    have x0 := ExtN.trans (.of s06) x0
    clear hodd e6 hxs s1 s2 s3 s4 s5 s6 s06
    walk_at "go"
    refine c_newT (by simp) fun v1 K1 _ k1 f1 => ?_
    walk_at "go"
    refine ⟨rfl, ?_⟩
    walk_at "go"
    refine c_hof0 (ns := []) rfl (fun z hz => nomatch hz) (by simp) fun r1 K2 k2 h1 => ?_
    walk_at "go"
    refine c_newT (by simp) fun v2 K3 _ k3 f3 => ?_
    walk_at "go"
    refine c_newT (by simp) fun v3 K4 _ k4 f4 => ?_
    walk_at "go"
    refine ⟨r1, v2, v3, [], [], rfl, h1.mono (k3.trans k4), .inl (.inl (k4 _ _ f3)), .inl (.inl f4), fun K5 k5 => ?_⟩
    have k15 := k2.trans (k3.trans (k4.trans k5))
    have f1 := k15 _ _ f1
    have TT := TT.ext (k1.trans k15)
    have x0 := x0.trans (.of (k1.trans k15))
    clear f3 f4 h1 k1 k2 k3 k4 k5 k15
    walk_at "go"
    refine ⟨rfl, ?_⟩
    walk_at "go"
    refine c_hof0 (ns := ["b", "a", "b"]) rfl nm_ba (by simp) fun r2 K6 k6 h2 => ?_
    walk_at "go"
    refine c_newT (by simp) fun v4 K7 _ k7 f7 => ?_
    walk_at "go"
    refine ⟨r2, v1, v4, ["b", "a", "b"], [], rfl, h2.mono k7, .inl (.inl (k7 _ _ (k6 _ _ f1))), .inl (.inl f7), fun K8 k8 => ?_⟩
    have k58 := k6.trans (k7.trans k8)
    exact q _ (x0.trans (.of k58)) (TT.ext k58)
end
end Und
set_option exponentiation.threshold 4000
namespace Und
open PySem PySem.Spec PyProof.Rows L2 LamX
local macro_rules | `(tactic| walk_at "side") => `(tactic| first | decide | omega | exact ⟨by omega, by omega⟩ | (show (0 : Int) < _; omega) | (exact Or.inl ⟨by omega, by omega⟩) | (exact Or.inr ⟨by omega, by omega⟩) | (exact sz (by simp)) | (exact szl (by simp)))
local macro_rules | `(tactic| walk_at "u") => `(tactic| first
  | with_reducible refine c_seq ?_ | with_reducible refine c_next ?_ | with_reducible refine c_yes ?_ | with_reducible refine c_asg ?_ | with_reducible refine c_asg2 ?_ | with_reducible refine c_par ?_ | with_reducible refine c_two ?_ | with_reducible refine c_g ?_ | with_reducible refine c_gsub ?_ | with_reducible refine c_gcons ?_ | with_reducible refine c_gnil ?_ | with_reducible refine c_ret ?_ | with_reducible refine c_drop ?_
  | ((with_reducible refine c_var (v := ?v) ?h ?_); (case h => rfl)) | with_reducible refine c_c ?_ | with_reducible refine c_op ?_ | with_reducible refine c_un ?_ | with_reducible refine c_I0 ?_
  | ((with_reducible refine c_I ?h ?_); (case h => walk_at "side"))
  | ((with_reducible refine c_eq ?h ?_); (case h => rfl)) | ((with_reducible refine c_neq ?h ?_); (case h => rfl)) | with_reducible refine c_test ?_ | with_reducible refine c_B ?_ | with_reducible refine c_bl ?_ | with_reducible refine c_int ?_ | with_reducible refine c_ifs ?_ | with_reducible refine c_ife ?_
  | with_reducible refine c_andV ?_ | with_reducible refine c_orV ?_ | with_reducible refine c_notV ?_ | with_reducible refine c_and ?_ | with_reducible refine c_or ?_ | with_reducible refine c_not ?_
  | with_reducible refine c_call ?_ | with_reducible refine c_cb ?_ | with_reducible refine c_nil ?_ | with_reducible refine c_cons ?_
  | with_reducible refine c_tup ?_ | with_reducible refine c_lst ?_ | with_reducible refine c_sl ?_ | with_reducible refine c_nop ?_ | with_reducible refine c_part ?_ | with_reducible refine c_fld ?_
  | with_reducible refine c_for ?_ | with_reducible refine c_ilist ?_ | with_reducible refine c_itup ?_ | with_reducible refine c_irng1 ?_ | with_reducible refine c_lc ?_
  | with_reducible refine c_m1 ?_ | with_reducible refine c_isS ?_ | with_reducible refine c_chain ?_ | with_reducible refine c_str ?_ | with_reducible refine c_make ?_ | with_reducible refine c_meth ?_ | with_reducible refine c_prop ?_ | with_reducible refine c_sfld ?_ | with_reducible refine c_ienumT ?_ | with_reducible refine iteT ?_ | with_reducible refine iteF ?_ | with_reducible refine iteNT ?_ | with_reducible refine iteNF ?_
  | ((with_reducible refine iteDT ?h ?_); (case h => first | rfl | omega)) | ((with_reducible refine iteDF ?h ?_); (case h => first | omega | (intro z; cases z; done))) | ((with_reducible refine iteNDT ?h ?_); (case h => first | rfl | omega)) | ((with_reducible refine iteNDF ?h ?_); (case h => first | omega | (intro z; cases z; done))))
local macro_rules | `(tactic| walk_at "go") => `(tactic| repeat (walk_at "u"))
local macro_rules | `(tactic| walk_at "u") => `(tactic| first | with_reducible refine c_methK ?_ | with_reducible refine c_mkK ?_ | with_reducible refine c_bmE ?_ | with_reducible refine c_cmeth ?_)
section
variable {P : Program} {w : World} {K : PySem.W.Frag} {mg : Str → Option Value} {base : Heap}
theorem dok_told {d : PyData} (h : DOk d 1) : DOk (.list [d, d]) 2 := (dok_list (n := 1) fun e he => by
  simp only [List.mem_cons, List.not_mem_nil, or_false] at he
  rcases he with rfl | rfl <;> exact h).1
theorem atI_prev {xs : List V} {k : Nat} (h : k < xs.length) : ∃ r, atI xs ((k : Int) - 1) = some r ∧ r ∈ xs := by
  unfold atI ixN
  by_cases hk : k = 0
  · subst hk
    rw [if_neg (by decide), if_pos (by omega)]
    have e : (((0 : Nat) : Int) - 1 + (xs.length : Int)).toNat = xs.length - 1 := by omega
    rw [e]
    exact ⟨xs[xs.length - 1]'(by omega), List.getElem?_eq_getElem (by omega), List.getElem_mem _⟩
  · rw [if_pos (by omega), if_pos (by omega)]
    have e : ((k : Int) - 1).toNat = k - 1 := by omega
    rw [e]
    exact ⟨xs[k - 1]'(by omega), List.getElem?_eq_getElem (by omega), List.getElem_mem _⟩
theorem mkK_of {C : Addr} {m : Nat} {sp : Sp} {dvs zs : List V} {g : {α : Type} → List α → List α → List α → List α} {E : XK} {H : Hp} {Q : VK} (vs : List V) (hg : ∀ x : Addr, g [V.ref x] dvs zs = .ref x :: vs) (hz : zs.length = m) (h : rMk C sp E vs H Q) : rMkK C m sp dvs g E zs H Q := ⟨hz, fun x dx nx nd ne => by
  have e := hg x
  show sp (@g V [V.ref x] dvs zs) _ _ _
  rw [e]
  exact h x dx nx nd ne⟩
theorem c_ixP {a : Addr} {xs : List V} {k : Int} {v : V} {H : Hp} {Q : VK} (e : SqL K H a xs) (hv : atI xs k = some v) (h : Q v H) : rIxL K (.ref a) (.int k) H Q := ⟨a, xs, k, v, rfl, rfl, e, hv, h⟩
def spRight (T : TX K mg) : Sp := fun vs H Q _ => ∃ (p : Addr), vs = [.ref p] ∧ Pool H p ∧ Tabs (tS T) H ∧ ∀ H', StpN p H H' → Tabs (tS T) H' → Q (.bl true) H'
theorem c_callsR {p : Addr} {H : Hp} {Q : VK} {E : XK} {m : Int} (pool : Pool H p) (m0 : 0 ≤ m) (m1 : m ≤ 1000) (h : ∀ (D : Addr) (ns : List Str) (H' : Hp), H D = none → Stp p H H' → H' D = some (.lst (ns.map V.str)) → (ns.length : Int) = m → (∀ z ∈ ns, IsName z) → Q (.ref D) H') : spCalls ([.ref p, .int m] ++ []) H Q E := ⟨p, m, rfl, pool, m0, m1, h⟩
theorem ok_right (T : TX K mg) (l1 : LTab base mg (tS T) "_law_made" T.c_law_made T.P_law_made) : FnG P w K mg base CX0 13 T.f_law_right T.fd_law_right pRight (spRight T) := by
  have G_law_draw := ok_draw (P := P) (w := w) (K := K) (base := base) T.d_law_draw T.divmod
  have G_law_calls := ok_calls (P := P) (w := w) (base := base) T
  have G_History_init := ok_init (P := P) (w := w) (base := base) T
  have G_law_shown_right := ok_shown (P := P) (w := w) (base := base) T
  have G_law_bad := ok_bad (P := P) (w := w) (base := base) T
  have G_law_made := ok_made (P := P) (w := w) (base := base) T l1
  refine okG0 T.d_law_right.F scRight (fun vs H Q E h => ?_) (fun cdv A outer s H vs Q E g hr h => ?_)
  · obtain ⟨p, rfl, _⟩ := h
    rfl
  · obtain ⟨p, rfl, pool, TT, q⟩ := h
    refine ⟨_, pss_cons (ps_set (i := 1) scRight.nd rfl (.inr rfl) (pe_callTy (callTupOf (K := K)) (by rfl) T.tuple (by decide +kernel) (pa_cons (pcall T.d_law_calls G_law_calls (hr.mono (by decide)) (by rfl) pass0 (pa_cons (pv 0) (pa_cons (pcall T.d_law_draw G_law_draw (hr.mono (by decide)) (by rfl) pass0 (pa_cons (pv 0) (pa_cons (pe_int) pa_nil))) pa_nil))) pa_nil)))
      (pss_cons (ps_set (i := 2) scRight.nd rfl (.inr rfl) (pe_callTy (callTupOf (K := K)) (by rfl) T.tuple (by decide +kernel) (pa_cons (pcall T.d_law_calls G_law_calls (hr.mono (by decide)) (by rfl) pass0 (pa_cons (pv 0) (pa_cons (pcall T.d_law_draw G_law_draw (hr.mono (by decide)) (by rfl) pass0 (pa_cons (pv 0) (pa_cons (pe_int) pa_nil))) pa_nil))) pa_nil)))
      (pss_cons (ps_set (i := 3) scRight.nd rfl (.inl rfl) (pe_lst (pa_cons (pe_make T.mk_History G_History_init (hr.mono (by decide)) (by rfl) T.m_History T.b2_History_init T.v2_History_init pass0 (pa_cons (pv 1) (pa_cons (pv 2) pa_nil))) (pa_cons (pe_makeK0 T.mk_History G_History_init (hr.mono (by decide)) (by rfl) T.m_History T.kd0_History_init pass0 (pk_cons (pv 2) (pk_cons (pv 1) pk_nil))) pa_nil))))
      (pss_cons (ps_if (pt_not (pt_val (pe_callB (crAll (K := K) rfl) (by rfl) T.all (by decide +kernel) (pa_cons (pe_lc (own := [("_law_box", 8)]) (g := gName 8) (tt := tYes) (by rfl) scRight.nd (piList (K := K) (pv 3)) (blkOk_by (own := [("_law_box", 8)]) (N := nRight) (sc := defScope sRight) (by decide +kernel)) (fun _ _ _ _ _ => pg_name (i := 8) scRight.nd rfl (.inl rfl)) (fun _ _ _ _ _ => pts_nil) (fun _ _ _ _ _ => pcallG T.d_law_shown_right G_law_shown_right g (hr.mono (by decide)) (by rfl) pass0 (pa_cons (pv 8) (pa_cons (pv 1) (pa_cons (pv 2) pa_nil))))) pa_nil)))) (pss_one (ps_ret (pe_bl))) (pss_nil))
      (pss_cons (ps_if (PW.pt (pw_or (pt_not (pt_val (pcallG T.d_law_shown_right G_law_shown_right g (hr.mono (by decide)) (by rfl) pass0 (pa_cons (pe_make T.mk_History G_History_init (hr.mono (by decide)) (by rfl) T.m_History T.b1_History_init T.v1_History_init pass0 (pa_cons (pv 1) pa_nil)) (pa_cons (pv 1) (pa_cons (pe_tup (pa_nil)) pa_nil)))))) (pw_or1 (pt_not (pt_val (pcallG T.d_law_shown_right G_law_shown_right g (hr.mono (by decide)) (by rfl) pass0 (pa_cons (pe_makeK0 T.mk_History G_History_init (hr.mono (by decide)) (by rfl) T.m_History T.kd1_History_init pass0 (pk_cons (pv 2) pk_nil)) (pa_cons (pe_tup (pa_nil)) (pa_cons (pv 2) pa_nil))))))))) (pss_one (ps_ret (pe_bl))) (pss_nil))
      (pss_cons (ps_set (i := 4) scRight.nd rfl (.inl rfl) (pcallG T.d_law_bad G_law_bad g (hr.mono (by decide)) (by rfl) pass0 (pa_cons (pv 0) (pa_cons (pv 1) pa_nil))))
      (pss_cons (ps_for PassesOwn.never rfl (pi_range1 (by rfl) T.range (pa_cons (pe_callB (callLn (K := K)) (by rfl) T.len (by decide +kernel) (pa_cons (pv 4) pa_nil)) pa_nil)) (pg_name (i := 5) scRight.nd rfl (.inl rfl))
        (pss_cons (ps_asg (pe_ix (ixL (K := K)) (pv 4) (pv 5) (fun _ _ => rfl)) (pgLst (K := K) (n := 2) (by rfl) (pgs_cons (pg_name (i := 6) scRight.nd rfl (.inl rfl)) (pgs_cons (pg_name (i := 7) scRight.nd rfl (.inl rfl)) pgs_nil))))
      (pss_cons (ps_if (PW.pt (pw_or (pt_cmpR (opNeD (K := K) hr.units) (pcallG T.d_law_made G_law_made g (hr.mono (by decide)) (by rfl) pass0 (pa_cons (pv 6) (pa_cons (pv 2) pa_nil))) (pe_op op_rep (pe_lst (pa_cons (pe_lst (pa_cons (pe_int) (pa_cons (pv 7) pa_nil))) pa_nil)) (pe_int)) (nomark _)) (pw_or1 (pt_cmpR (opNeD (K := K) hr.units) (pcallG T.d_law_made G_law_made g (hr.mono (by decide)) (by rfl) pass0 (pa_cons (pv 6) (pa_cons (pe_ix (ixL (K := K)) (pe_ix (ixL (K := K)) (pv 4) (pe_op op_sub (pv 5) (pe_int)) (fun _ _ => rfl)) (pe_int) (fun _ _ => rfl)) pa_nil))) (pe_op op_rep (pe_lst (pa_cons (pe_lst (pa_cons (pe_int) (pa_cons (pv 7) pa_nil))) pa_nil)) (pe_int)) (nomark _))))) (pss_one (ps_ret (pe_bl))) (pss_nil))
      (pss_one (ps_if (pt_cmpR (opNeD (K := K) hr.units) (pcallG T.d_law_made G_law_made g (hr.mono (by decide)) (by rfl) pass0 (pa_cons (pv 2) (pa_cons (pv 6) pa_nil))) (pe_op op_rep (pe_lst (pa_cons (pe_lst (pa_cons (pe_int) (pa_cons (pv 7) pa_nil))) pa_nil)) (pe_int)) (nomark _)) (pss_one (ps_ret (pe_bl))) (pss_nil))))))
      (pss_one (ps_ret (pe_callB (crAll (K := K) rfl) (by rfl) T.all (by decide +kernel) (pa_cons (pe_lc (own := [("_law_box", 8)]) (g := gName 8) (tt := tYes) (by rfl) scRight.nd (piList (K := K) (pv 3)) (blkOk_by (own := [("_law_box", 8)]) (N := nRight) (sc := defScope sRight) (by decide +kernel)) (fun _ _ _ _ _ => pg_name (i := 8) scRight.nd rfl (.inl rfl)) (fun _ _ _ _ _ => pts_nil) (fun _ _ _ _ _ => pcallG T.d_law_shown_right G_law_shown_right g (hr.mono (by decide)) (by rfl) pass0 (pa_cons (pv 8) (pa_cons (pv 1) (pa_cons (pv 2) pa_nil))))) pa_nil)))))))))), ?_⟩
    walk_at "go"
    refine c_draw pool (by decide) (by decide) fun n1 H1 n10 n11 st1 => ?_
    walk_at "go"
    refine c_callsR st1.q n10 (by omega) fun f ns1 H2 nD1 st2 ef l1' ok1 => ?_
    walk_at "go"
    have st02 := st1.trans st2
    refine c_tupOfL (.inl (.inl ef)) fun t1 H3 nt1 s3 et1 => ?_
    have st03 : Stp p H H3 := st02.trans (.of st02.q s3)
    walk_at "go"
    refine c_draw st03.q (by decide) (by decide) fun n2 H4 n20 n21 st4 => ?_
    walk_at "go"
    refine c_callsR st4.q n20 (by omega) fun r ns2 H5 nD2 st5 er l2' ok2 => ?_
    walk_at "go"
    refine c_tupOfL (.inl (.inl er)) fun t2 H6 nt2 s6 et2 => ?_
    have st05 := st03.trans (st4.trans st5)
    have st06 : Stp p H H6 := st05.trans (.of st05.q s6)
    walk_at "go"
    have k1 : ns1.length + ns2.length ≤ 30 := by omega
    have et1 := pool_stay st03.q (st4.trans st5) et1 (by intro l z; cases z)
    have et1 := s6 _ _ et1
    have TT := tabs_stp pool st06 TT
    clear ef er
    refine c_mkH (.inl (.inl et1)) (.inl (.inl et2)) ok1 ok2 (by omega) (fun b1 H7 s7 hB1 => ?_) rfl
    walk_at "go"
    have et1 := s7 _ _ et1
    have et2 := s7 _ _ et2
    refine mkK_of [.ref t1, .ref t2] (fun x => rfl) rfl ?_
    refine c_mkH (.inl (.inl et1)) (.inl (.inl et2)) ok1 ok2 (by omega) (fun b2 H8 s8 hB2 => ?_) rfl
    walk_at "go"
    refine c_newL (by simp) fun M H9 _ s9 eM => ?_
    have s89 := s8.trans s9
    have s79 := s7.trans s89
    have et1 := s89 _ _ et1
    have et2 := s89 _ _ et2
    have hB1 := hB1.mono s89
    have hB2 := hB2.mono s9
    have TT := TT.ext s79
    have st09 : Stp p H H9 := st06.trans (.of st06.q s79)
    clear s7 s8 s9 s89 s79 s3 s6 st1 st02 st03 st4 st5 st05 st06 nt1 nt2 nD1 nD2 st2
    walk_at "go"
    refine ⟨_, rfl, ⟨_, .inl (.inl eM)⟩, fun D nD => ?_⟩
    have hlook : ∀ (x : V) (i : Nat), [V.ref b1, V.ref b2][i]? = some x → ∃ bj, x = .ref bj ∧ HistAt K T.C_History H9 bj ns1 ns2 := fun x i hx => by
      match i, hx with
      | 0, hx => exact ⟨b1, (Option.some.inj hx).symm, hB1⟩
      | 1, hx => exact ⟨b2, (Option.some.inj hx).symm, hB2⟩
    refine lc_ls (ys := [.ref b1, .ref b2]) (fun _ v => v = V.bl true) nD (by simp) (.inl (.inl eM)) (fun _ => rfl) (fun i x K4 Q' hx k4 kk => ?_) (fun K4 xs k4 e4 l r' => ?_)
    · obtain ⟨bj, rfl, hbj⟩ := hlook x i hx
      walk_at "go"
      exact ⟨bj, t1, t2, ns1, ns2, rfl, hbj.mono k4, .inl (.inl (k4 _ _ et1)), .inl (.inl (k4 _ _ et2)), fun K5 k5 => kk _ _ k5 rfl⟩
    obtain ⟨bs, rfl, hbs⟩ := bls_of (n := 0) fun i y e => r' i y e
    walk_at "go"
    refine c_all (.inl (.inl e4)) ?_
    rw [hbs]
    have et1 := k4 _ _ et1
    have et2 := k4 _ _ et2
    have eM := k4 _ _ eM
    have hB1 := hB1.mono k4
    have hB2 := hB2.mono k4
    have TT := TT.ext k4
    have st0 : Stp p H K4 := st09.trans (.of st09.q k4)
    clear st09 e4 nD hlook k4 l r'
    walk_at "go"
    refine c_mkH (ps := ns1) (fs := []) (.inl (.inl et1)) (T.t1_History_init _) ok1 (fun z hz => by cases hz) (by simp; omega) (fun b3 L1 l1 hB3 => ?_) rfl
    walk_at "go"
    refine c_newT (by simp) fun v1 L2 _ l2 f2 => ?_
    walk_at "go"
    have l12 := l1.trans l2
    refine ⟨b3, t1, v1, ns1, [], rfl, hB3.mono l2, .inl (.inl (l12 _ _ et1)), .inl (.inl f2), fun L3 l3 => ?_⟩
    have l13 := l12.trans l3
    have et2 := l13 _ _ et2
    walk_at "go"
    refine mkK_of [.ref T.e0_History_init, .ref t2] (fun x => rfl) rfl ?_
    refine c_mkH (ps := []) (fs := ns2) (T.t0_History_init _) (.inl (.inl et2)) (fun z hz => by cases hz) ok2 (by simp; omega) (fun b4 L4 l4 hB4 => ?_) rfl
    walk_at "go"
    refine c_newT (by simp) fun v2 L5 _ l5 f5 => ?_
    walk_at "go"
    have l45 := l4.trans l5
    refine ⟨b4, v2, t2, [], ns2, rfl, hB4.mono l5, .inl (.inl f5), .inl (.inl (l45 _ _ et2)), fun L6 l6 => ?_⟩
    have l46 := l45.trans l6
    have l16 := l13.trans l46
    have et2 := l46 _ _ et2
    have et1 := l16 _ _ et1
    have eM := l16 _ _ eM
    have hB1 := hB1.mono l16
    have hB2 := hB2.mono l16
    have TT := TT.ext l16
    have st0 : Stp p H L6 := st0.trans (.of st0.q l16)
    clear hB3 hB4 f2 f5 l1 l2 l3 l4 l5 l6 l12 l13 l45 l46 l16
    walk_at "go"
    refine ⟨p, t1, ns1, rfl, st0.q, .inl (.inl et1), ok1, by omega, fun F rows N1 st1 eF hlen hrows => ?_⟩
    have et2 := pool_stay st0.q st1 et2 (by intro l z; cases z)
    have et1 := pool_stay st0.q st1 et1 (by intro l z; cases z)
    have eM := st1.at eM (fun z => by
      obtain ⟨xa, xb, xc, ez, _⟩ := st0.q
      rw [z, eM] at ez
      cases ez)
    have hB1 := hB1.stp st0.q st1
    have hB2 := hB2.stp st0.q st1
    have TT := tabs_stp st0.q st1 TT
    have st0 := st0.trans st1
    clear st1
    walk_at "go"
    refine c_lnL (.inl (.inl eF)) ?_
    rw [hlen]
    walk_at "go"
    refine ⟨_, rfl, by omega, by omega, ?_⟩
    refine for_range (lo := 0) (n := 20) (fun k σ G => ∃ (y5 y6 y7 y8 : Option V), σ = [some (.ref p), some (.ref t1), some (.ref t2), some (.ref M), some (.ref F), y5, y6, y7, y8] ∧ ExtN N1 G ∧ Tabs (tS T) G)
      ⟨_, _, _, _, rfl, .refl _, TT⟩ (fun k σ G hk hW => ?_) (fun σ G hW => ?_)
    rotate_left
    · obtain ⟨y5, y6, y7, y8, rfl, x0, TT⟩ := hW
      have et1 := x0 _ _ et1 fun ps z => by cases z
      have et2 := x0 _ _ et2 fun ps z => by cases z
      have eM := x0 _ _ eM fun ps z => by cases z
      have hB1 := hB1.ext x0
      have hB2 := hB2.ext x0
      walk_at "go"
      refine ⟨_, rfl, ⟨_, .inl (.inl eM)⟩, fun D nD => ?_⟩
      refine lc_ls (ys := [.ref b1, .ref b2]) (fun _ v => v = V.bl true) nD (by simp) (.inl (.inl eM)) (fun _ => rfl) (fun i x K4 Q' hx k4 kk => ?_) (fun K4 xs k4 e4 l r' => ?_)
      · obtain ⟨bj, rfl, hbj⟩ : ∃ bj, x = .ref bj ∧ HistAt K T.C_History G bj ns1 ns2 := by
          match i, hx with
          | 0, hx => exact ⟨b1, (Option.some.inj hx).symm, hB1⟩
          | 1, hx => exact ⟨b2, (Option.some.inj hx).symm, hB2⟩
        walk_at "go"
        exact ⟨bj, t1, t2, ns1, ns2, rfl, hbj.mono k4, .inl (.inl (k4 _ _ et1)), .inl (.inl (k4 _ _ et2)), fun K5 k5 => kk _ _ k5 rfl⟩
      obtain ⟨bs, rfl, hbs⟩ := bls_of (n := 0) fun i y e => r' i y e
      walk_at "go"
      refine c_all (.inl (.inl e4)) ?_
      rw [hbs]
      exact q _ ((StpN.of st0).trans (.ext st0.q (ExtN.trans x0 (.of k4)))) (TT.ext k4)
    obtain ⟨y5, y6, y7, y8, rfl, x0, TT⟩ := hW
    have hk20 : k < rows.length := by rw [hlen]; exact hk
    have eF := x0 _ _ eF fun ps z => by cases z
    have et2 := x0 _ _ et2 fun ps z => by cases z
    obtain ⟨l, v, w, x, hr', el, hbad, hR, hok⟩ := RowAt.ext x0 (hrows _ (List.getElem_mem hk20))
    walk_at "go"
    refine c_ixL (.inl (.inl eF)) k (by omega) (by rw [List.getElem?_eq_getElem hk20, hr']) ?_
    refine c_glst (.inl (.inl el)) rfl ?_
    walk_at "go"
    refine ⟨v, .ref t2, (.int 1, x), rfl, .inl ⟨w, x, rfl, hR, .inl hbad⟩, TT, fun m0 m1 m2 G1 x1 TT c0 c1 c2 => ?_⟩
    walk_at "go"
    (
      refine c_newL (by simp) fun d1 J1 _ j1 g1 => ?_
      walk_at "go"
      refine c_newL (by simp) fun d2 J2 _ j2 g2 => ?_
      walk_at "go"
      refine c_repL (k := 2) g2 (by simp) fun d3 J3 j3 g3 => ?_
      have g3 : J3 d3 = some (.lst [.ref d1, .ref d1]) := g3
      have j23 := j2.trans j3
      have j13 := j1.trans j23
      have g1 := j23 _ _ g1
      have c0 := j13 _ _ c0
      have c1 := j13 _ _ c1
      have c2 := j13 _ _ c2
      refine c_neD1 (d := .list [.list [.int 1, .str x], .list [.int 1, .str x]]) (.lst (.inl (.inl c0)) (.cons (.lst (.inl (.inl c1)) (.cons (.int 1) (.cons (.str x) .nil))) (.cons (.lst (.inl (.inl c2)) (.cons (.int 1) (.cons (.str x) .nil))) .nil))) (.lst (.inl (.inl g3)) (.cons (.lst (.inl (.inl g1)) (.cons (.int 1) (.cons (.str x) .nil))) (.cons (.lst (.inl (.inl g1)) (.cons (.int 1) (.cons (.str x) .nil))) .nil))) (dok_told (dok_due hok)) (by decide) ?_)
    have x01 := ExtN.trans x1 (.of j13)
    have x0 := ExtN.trans x0 x01
    have TT := TT.ext j13
    have eF := x01 _ _ eF fun ps z => by cases z
    have et2 := x01 _ _ et2 fun ps z => by cases z
    have hbad := hbad.ext x01
    have hR := hR.ext x01
    clear c0 c1 c2 g1 g2 g3 j1 j2 j3 j23 j13 x1 x01 el
    obtain ⟨r2, hat, hr2⟩ := atI_prev hk20
    obtain ⟨l', v', w', x', rfl, el', _⟩ := RowAt.ext x0 (hrows _ hr2)
    walk_at "go"
    refine c_ixP (.inl (.inl eF)) (by rw [Int.zero_add]; exact hat) ?_
    walk_at "go"
    refine c_ixL (.inl (.inl el')) 0 rfl rfl ?_
    walk_at "go"
    refine ⟨v, v', (.int 1, x), rfl, .inl ⟨w, x, rfl, hR, .inl hbad⟩, TT, fun m0 m1 m2 G1 x1 TT c0 c1 c2 => ?_⟩
    walk_at "go"
    (
      refine c_newL (by simp) fun d1 J1 _ j1 g1 => ?_
      walk_at "go"
      refine c_newL (by simp) fun d2 J2 _ j2 g2 => ?_
      walk_at "go"
      refine c_repL (k := 2) g2 (by simp) fun d3 J3 j3 g3 => ?_
      have g3 : J3 d3 = some (.lst [.ref d1, .ref d1]) := g3
      have j23 := j2.trans j3
      have j13 := j1.trans j23
      have g1 := j23 _ _ g1
      have c0 := j13 _ _ c0
      have c1 := j13 _ _ c1
      have c2 := j13 _ _ c2
      refine c_neD1 (d := .list [.list [.int 1, .str x], .list [.int 1, .str x]]) (.lst (.inl (.inl c0)) (.cons (.lst (.inl (.inl c1)) (.cons (.int 1) (.cons (.str x) .nil))) (.cons (.lst (.inl (.inl c2)) (.cons (.int 1) (.cons (.str x) .nil))) .nil))) (.lst (.inl (.inl g3)) (.cons (.lst (.inl (.inl g1)) (.cons (.int 1) (.cons (.str x) .nil))) (.cons (.lst (.inl (.inl g1)) (.cons (.int 1) (.cons (.str x) .nil))) .nil))) (dok_told (dok_due hok)) (by decide) ?_)
    have x01 := ExtN.trans x1 (.of j13)
    have x0 := ExtN.trans x0 x01
    have TT := TT.ext j13
    have et2 := x01 _ _ et2 fun ps z => by cases z
    have hbad := hbad.ext x01
    have hR := hR.ext x01
    clear c0 c1 c2 g1 g2 g3 j1 j2 j3 j23 j13 x1 x01 el'
    walk_at "go"
    refine ⟨.ref t2, v, (.int 1, x), rfl, .inl ⟨w, x, rfl, hR, .inr ⟨t2, ns2, rfl, .inl (.inl et2), ok2, hbad⟩⟩, TT, fun m0 m1 m2 G1 x1 TT c0 c1 c2 => ?_⟩
    walk_at "go"
    (
      refine c_newL (by simp) fun d1 J1 _ j1 g1 => ?_
      walk_at "go"
      refine c_newL (by simp) fun d2 J2 _ j2 g2 => ?_
      walk_at "go"
      refine c_repL (k := 2) g2 (by simp) fun d3 J3 j3 g3 => ?_
      have g3 : J3 d3 = some (.lst [.ref d1, .ref d1]) := g3
      have j23 := j2.trans j3
      have j13 := j1.trans j23
      have g1 := j23 _ _ g1
      have c0 := j13 _ _ c0
      have c1 := j13 _ _ c1
      have c2 := j13 _ _ c2
      refine c_neD1 (d := .list [.list [.int 1, .str x], .list [.int 1, .str x]]) (.lst (.inl (.inl c0)) (.cons (.lst (.inl (.inl c1)) (.cons (.int 1) (.cons (.str x) .nil))) (.cons (.lst (.inl (.inl c2)) (.cons (.int 1) (.cons (.str x) .nil))) .nil))) (.lst (.inl (.inl g3)) (.cons (.lst (.inl (.inl g1)) (.cons (.int 1) (.cons (.str x) .nil))) (.cons (.lst (.inl (.inl g1)) (.cons (.int 1) (.cons (.str x) .nil))) .nil))) (dok_told (dok_due hok)) (by decide) ?_)
    walk_at "go"
    exact ⟨_, _, _, _, rfl, ExtN.trans x0 (ExtN.trans x1 (.of j13)), TT.ext j13⟩
def spLaw (K : PySem.W.Frag) (Ts : List (Addr × Str)) : Sp := fun vs H Q _ => ∃ (a : Addr) (ns : List Int), vs = [.ref a] ∧ SqL K H a (ns.map V.int) ∧ ns.length ≤ 63 ∧ Tabs Ts H ∧ ∀ H', Q (.bl true) H'
theorem ok_law (T : TX K mg) (l1 : LTab base mg (tS T) "_law_made" T.c_law_made T.P_law_made) (l2 : LTab base mg (tS T) "_law_of_right" T.c_law_of_right T.P_law_of_right) : FnG P w K mg base CX0 14 T.f_law T.fd_law pLaw (spLaw K (tS T)) := by
  have G_law_cell := ok_cell (P := P) (w := w) (K := K) (base := base) T.d_law_cell T.len
  have G_law_pool := ok_pool (P := P) (w := w) (K := K) (base := base) T.d_law_pool T.abs
  have G_law_right := ok_right (P := P) (w := w) (base := base) T l1
  have G_law_made := ok_made (P := P) (w := w) (base := base) T l1
  have G_law_of_right := ok_ofright (P := P) (w := w) (base := base) T l2
  have G_History_init := ok_init (P := P) (w := w) (base := base) T
  have G_law_shown_right := ok_shown (P := P) (w := w) (base := base) T
  refine okG0 T.d_law.F scLaw (fun vs H Q E h => ?_) (fun cdv A outer s H vs Q E g hr h => ?_)
  · obtain ⟨a, ns, rfl, _⟩ := h
    rfl
  · obtain ⟨a, ns, rfl, hS, hlen, TT, q⟩ := h
    refine ⟨_, pss_cons (ps_if (PW.pt (pw_or (pt_not (pt_val (pcallG0 T.d_law_of_right G_law_of_right g (hr.mono (by decide)) (by rfl) pass0))) (pw_or (pt_not (pt_val (pcallG T.d_law_shown_right G_law_shown_right g (hr.mono (by decide)) (by rfl) pass0 (pa_cons (pe_make0 T.mk_History G_History_init (hr.mono (by decide)) (by rfl) T.m_History T.b0_History_init T.v0_History_init pass0) (pa_cons (pe_tup (pa_nil)) (pa_cons (pe_tup (pa_nil)) pa_nil)))))) (pw_or1 (pt_cmpR (opNeD (K := K) hr.units) (pcallG T.d_law_made G_law_made g (hr.mono (by decide)) (by rfl) pass0 (pa_cons (pe_tup (pa_nil)) (pa_cons (pe_tup (pa_nil)) pa_nil))) (pe_op op_rep (pe_lst (pa_cons (pe_lst (pa_cons (pe_str) (pa_cons (pe_str) pa_nil))) pa_nil)) (pe_int)) (nomark _)))))) (pss_one (ps_ret (pe_bl))) (pss_nil))
      (pss_one (ps_ret (pe_callB (crAll (K := K) rfl) (by rfl) T.all (by decide +kernel) (pa_cons (pe_lc (own := [("_law_k", 1)]) (g := gName 1) (tt := tYes) (by rfl) scLaw.nd (pi_range1 (by rfl) T.range (pa_cons (pe_callB (callMax2 rfl) (by rfl) T.max (by decide +kernel) (pa_cons (pe_int) (pa_cons (pe_callB (callMin2 rfl) (by rfl) T.min (by decide +kernel) (pa_cons (pe_int) (pa_cons (pe_callB (callLn (K := K)) (by rfl) T.len (by decide +kernel) (pa_cons (pv 0) pa_nil)) pa_nil))) pa_nil))) pa_nil)) (blkOk_by (own := [("_law_k", 1)]) (N := nLaw) (sc := defScope sLaw) (by decide +kernel)) (fun _ _ _ _ _ => pg_name (i := 1) scLaw.nd rfl (.inl rfl)) (fun _ _ _ _ _ => pts_nil) (fun _ _ _ _ _ => pcallG T.d_law_right G_law_right g (hr.mono (by decide)) (by rfl) pass0 (pa_cons (pcall T.d_law_pool G_law_pool (hr.mono (by decide)) (by rfl) pass0 (pa_cons (pcall T.d_law_cell G_law_cell (hr.mono (by decide)) (by rfl) pass0 (pa_cons (pv 0) (pa_cons (pv 1) pa_nil))) pa_nil)) pa_nil))) pa_nil)))), ?_⟩
    walk_at "go"
    refine ⟨rfl, TT, fun H1 x1 TT1 => ?_⟩
    walk_at "go"
    refine c_mkH (ps := []) (fs := []) (T.t0_History_init _) (T.t1_History_init _) (fun z hz => by cases hz) (fun z hz => by cases hz) (by simp) (fun b H2 s2 hB => ?_) rfl
    walk_at "go"
    refine c_newT (by simp) fun v1 H3 _ s3 f3 => ?_
    walk_at "go"
    refine c_newT (by simp) fun v2 H4 _ s4 f4 => ?_
    walk_at "go"
    refine ⟨b, v1, v2, [], [], rfl, hB.mono (s3.trans s4), .inl (.inl (s4 _ _ f3)), .inl (.inl f4), fun H5 s5 => ?_⟩
    have s25 := s2.trans (s3.trans (s4.trans s5))
    have TT := TT1.ext s25
    have x1 := ExtN.trans x1 (.of s25)
    clear TT1 hB f3 f4 s2 s3 s4 s5 s25
    walk_at "go"
    refine c_newT (by simp) fun v3 H6 _ s6 f6 => ?_
    walk_at "go"
    refine c_newT (by simp) fun v4 H7 _ s7 f7 => ?_
    walk_at "go"
    have s67 := s6.trans s7
    have TT := TT.ext s67
    have x1 := ExtN.trans x1 (.of s67)
    refine ⟨.ref v3, .ref v4, (.str "told", ""), rfl, .inr ⟨v3, v4, [], [], rfl, rfl, rfl, .inl (.inl (s7 _ _ f6)), .inl (.inl f7), (fun z hz => nomatch hz), (fun z hz => nomatch hz), by simp⟩, TT, fun m0 m1 m2 G1 x2 TT c0 c1 c2 => ?_⟩
    walk_at "go"
    refine c_newL (by simp) fun d1 J1 _ j1 g1 => ?_
    walk_at "go"
    refine c_newL (by simp) fun d2 J2 _ j2 g2 => ?_
    walk_at "go"
    refine c_repL (k := 2) g2 (by simp) fun d3 J3 j3 g3 => ?_
    have g3 : J3 d3 = some (.lst [.ref d1, .ref d1]) := g3
    have j23 := j2.trans j3
    have j13 := j1.trans j23
    have g1 := j23 _ _ g1
    have c0 := j13 _ _ c0
    have c1 := j13 _ _ c1
    have c2 := j13 _ _ c2
    refine c_neD1 (d := .list [.list [.str "told", .str ""], .list [.str "told", .str ""]]) (.lst (.inl (.inl c0)) (.cons (.lst (.inl (.inl c1)) (.cons (.str _) (.cons (.str _) .nil))) (.cons (.lst (.inl (.inl c2)) (.cons (.str _) (.cons (.str _) .nil))) .nil))) (.lst (.inl (.inl g3)) (.cons (.lst (.inl (.inl g1)) (.cons (.str _) (.cons (.str _) .nil))) (.cons (.lst (.inl (.inl g1)) (.cons (.str _) (.cons (.str _) .nil))) .nil))) (dok_told (dok_pair (dok_str (by decide +kernel)) (dok_str (by decide +kernel)))) (by decide) ?_
    have TT := TT.ext j13
    have hS := ExtN.seq (ExtN.trans x1 (ExtN.trans x2 (.of j13))) hS
    clear c0 c1 c2 g1 g2 g3 j1 j2 j3 j13 j23 f6 f7 s6 s7 s67 x1 x2
    walk_at "go"
    refine c_lnL hS ?_
    walk_at "go"
    refine c_min2 ?_
    walk_at "go"
    refine c_max2 ?_
    walk_at "go"
    rw [List.length_map]
    refine ⟨_, rfl, by omega, by omega, fun D2 nD2 => ?_⟩
    refine lc_rgT (fun _ v => v = V.bl true) TT nD2 (by omega) (fun _ => rfl) (fun i J1 Q' hi x1 T1 k => ?_) (fun J1 xs x1 T1 f1 l r => ?_)
    · walk_at "go"
      refine ⟨a, ns, _, rfl, ExtN.seq x1 hS, by omega, by omega, fun z J2 t2 => ?_⟩
      walk_at "go"
      refine ⟨z, rfl, fun p J3 np t3 pool => ?_⟩
      walk_at "go"
      refine ⟨p, rfl, pool, (T1.ext t2).ext t3, fun J4 x4 T4 => ?_⟩
      refine k _ _ (fun b o e n => ?_) T4 rfl
      have e2 := t2 b o e
      have ne : p ≠ b := fun z => by
        rw [← z, np] at e2
        cases e2
      exact x4.at (t3 _ _ e2) ne n
    · obtain ⟨bs, rfl, hb⟩ := bls_of (n := 0) fun i y e => r i y e
      refine c_all (.inl (.inl f1)) ?_
      rw [hb]
      exact q _
end
end Und
namespace Und
open PySem PySem.Spec PyProof.Rows L2
local macro_rules | `(tactic| walk_at "side") => `(tactic| first | decide | omega | exact ⟨by omega, by omega⟩ | (show (0 : Int) < _; omega) | (exact Or.inl ⟨by omega, by omega⟩) | (exact Or.inr ⟨by omega, by omega⟩) | (exact sz (by simp)) | (exact szl (by simp)))
local macro_rules | `(tactic| walk_at "u") => `(tactic| first
  | with_reducible refine c_seq ?_ | with_reducible refine c_next ?_ | with_reducible refine c_yes ?_ | with_reducible refine c_asg ?_ | with_reducible refine c_asg2 ?_ | with_reducible refine c_par ?_ | with_reducible refine c_two ?_ | with_reducible refine c_g ?_ | with_reducible refine c_gsub ?_ | with_reducible refine c_gcons ?_ | with_reducible refine c_gnil ?_ | with_reducible refine c_ret ?_ | with_reducible refine c_drop ?_
  | ((with_reducible refine c_var (v := ?v) ?h ?_); (case h => rfl)) | with_reducible refine c_c ?_ | with_reducible refine c_op ?_ | with_reducible refine c_un ?_ | with_reducible refine c_I0 ?_
  | ((with_reducible refine c_I ?h ?_); (case h => walk_at "side"))
  | ((with_reducible refine c_eq ?h ?_); (case h => rfl)) | ((with_reducible refine c_neq ?h ?_); (case h => rfl)) | with_reducible refine c_test ?_ | with_reducible refine c_B ?_ | with_reducible refine c_bl ?_ | with_reducible refine c_int ?_ | with_reducible refine c_ifs ?_ | with_reducible refine c_ife ?_
  | with_reducible refine c_andV ?_ | with_reducible refine c_orV ?_ | with_reducible refine c_notV ?_ | with_reducible refine c_and ?_ | with_reducible refine c_or ?_ | with_reducible refine c_not ?_
  | with_reducible refine c_call ?_ | with_reducible refine c_cb ?_ | with_reducible refine c_nil ?_ | with_reducible refine c_cons ?_
  | with_reducible refine c_tup ?_ | with_reducible refine c_lst ?_ | with_reducible refine c_sl ?_ | with_reducible refine c_nop ?_ | with_reducible refine c_part ?_ | with_reducible refine c_fld ?_
  | with_reducible refine c_for ?_ | with_reducible refine c_ilist ?_ | with_reducible refine c_itup ?_ | with_reducible refine c_irng1 ?_ | with_reducible refine c_lc ?_
  | with_reducible refine c_m1 ?_ | with_reducible refine c_isS ?_ | with_reducible refine c_chain ?_ | with_reducible refine c_str ?_ | with_reducible refine c_make ?_ | with_reducible refine c_meth ?_ | with_reducible refine c_prop ?_ | with_reducible refine c_sfld ?_ | with_reducible refine c_ienumT ?_ | with_reducible refine iteT ?_ | with_reducible refine iteF ?_ | with_reducible refine iteNT ?_ | with_reducible refine iteNF ?_
  | ((with_reducible refine iteDT ?h ?_); (case h => first | rfl | omega)) | ((with_reducible refine iteDF ?h ?_); (case h => first | omega | (intro z; cases z; done))) | ((with_reducible refine iteNDT ?h ?_); (case h => first | rfl | omega)) | ((with_reducible refine iteNDF ?h ?_); (case h => first | omega | (intro z; cases z; done))))
local macro_rules | `(tactic| walk_at "go") => `(tactic| repeat (walk_at "u"))
theorem all_mk {l : PySem.W.OpenLaw} {w : World} {K : PySem.W.Frag} {h : Heap} {mg : Str → Option Value} {fa : Addr} (X : K.In h) (G : h.Ns mainGlobals mg) (hfa : mg "law" = some (.ref fa))
    {f_IsName : Addr} {od_IsName an_IsName : Option Addr} {sl_IsName : Array (Option Value)} {oc_IsName kV_IsName dc_IsName pm_IsName cd_IsName ct_IsName : Value}
    {f_IsAm : Addr} {od_IsAm an_IsAm : Option Addr} {sl_IsAm : Array (Option Value)} {oc_IsAm kV_IsAm dc_IsAm pm_IsAm cd_IsAm ct_IsAm : Value}
    {f_ChName : Addr} {od_ChName an_ChName : Option Addr} {sl_ChName : Array (Option Value)} {oc_ChName kV_ChName dc_ChName pm_ChName cd_ChName ct_ChName : Value}
    {f_ChNames : Addr} {od_ChNames an_ChNames : Option Addr} {sl_ChNames : Array (Option Value)} {oc_ChNames kV_ChNames dc_ChNames pm_ChNames cd_ChNames ct_ChNames : Value}
    {f_ChAm : Addr} {od_ChAm an_ChAm : Option Addr} {sl_ChAm : Array (Option Value)} {oc_ChAm kV_ChAm dc_ChAm pm_ChAm cd_ChAm ct_ChAm : Value}
    {f_Moved : Addr} {od_Moved an_Moved : Option Addr} {sl_Moved : Array (Option Value)} {oc_Moved kV_Moved dc_Moved pm_Moved cd_Moved ct_Moved : Value}
    {f_HWith : Addr} {od_HWith an_HWith : Option Addr} {sl_HWith : Array (Option Value)} {oc_HWith kV_HWith dc_HWith pm_HWith cd_HWith ct_HWith : Value}
    {f_Cell : Addr} {od_Cell an_Cell : Option Addr} {sl_Cell : Array (Option Value)} {oc_Cell kV_Cell dc_Cell pm_Cell cd_Cell ct_Cell : Value}
    {f_Pool : Addr} {od_Pool an_Pool : Option Addr} {sl_Pool : Array (Option Value)} {oc_Pool kV_Pool dc_Pool pm_Pool cd_Pool ct_Pool : Value}
    {f_Draw : Addr} {od_Draw an_Draw : Option Addr} {sl_Draw : Array (Option Value)} {oc_Draw kV_Draw dc_Draw pm_Draw cd_Draw ct_Draw : Value}
    {f_Calls : Addr} {od_Calls an_Calls : Option Addr} {sl_Calls : Array (Option Value)} {oc_Calls kV_Calls dc_Calls pm_Calls cd_Calls ct_Calls : Value}
    {f_Error : Addr} {od_Error an_Error : Option Addr} {sl_Error : Array (Option Value)} {oc_Error kV_Error dc_Error pm_Error cd_Error ct_Error : Value}
    {f_Caught : Addr} {od_Caught an_Caught : Option Addr} {sl_Caught : Array (Option Value)} {oc_Caught kV_Caught dc_Caught pm_Caught cd_Caught ct_Caught : Value}
    {f_Bad : Addr} {od_Bad an_Bad : Option Addr} {sl_Bad : Array (Option Value)} {oc_Bad kV_Bad dc_Bad pm_Bad cd_Bad ct_Bad : Value}
    {f_LMade : Addr} {od_LMade an_LMade : Option Addr} {sl_LMade : Array (Option Value)} {oc_LMade kV_LMade dc_LMade pm_LMade  ct_LMade : Value}
    {cc_LMade P_LMade : Addr} {ocd_LMade : Obj}
    {f_Shown : Addr} {od_Shown an_Shown : Option Addr} {sl_Shown : Array (Option Value)} {oc_Shown kV_Shown dc_Shown pm_Shown cd_Shown ct_Shown : Value}
    {f_Right : Addr} {od_Right an_Right : Option Addr} {sl_Right : Array (Option Value)} {oc_Right kV_Right dc_Right pm_Right cd_Right ct_Right : Value}
    {f_OfRight : Addr} {od_OfRight an_OfRight : Option Addr} {sl_OfRight : Array (Option Value)} {oc_OfRight kV_OfRight dc_OfRight pm_OfRight  ct_OfRight : Value}
    {cc_OfRight P_OfRight : Addr} {ocd_OfRight : Obj}
    {f_Law : Addr} {od_Law an_Law : Option Addr} {sl_Law : Array (Option Value)} {oc_Law kV_Law dc_Law pm_Law cd_Law ct_Law : Value}
    {t_LONGEST_NAME : Tok}
    {C_UndoError : Addr}
    {C_StateError : Addr}
    {C_LimitError : Addr}
    {C_InvalidName : Addr}
    {ox_InvalidName : Obj}
    {f_InvalidName_init : Addr} {od_InvalidName_init an_InvalidName_init : Option Addr} {sl_InvalidName_init : Array (Option Value)} {oc_InvalidName_init kV_InvalidName_init dc_InvalidName_init pm_InvalidName_init cd_InvalidName_init ct_InvalidName_init : Value}
    {C_InvalidNames : Addr}
    {ox_InvalidNames : Obj}
    {f_InvalidNames_init : Addr} {od_InvalidNames_init an_InvalidNames_init : Option Addr} {sl_InvalidNames_init : Array (Option Value)} {oc_InvalidNames_init kV_InvalidNames_init dc_InvalidNames_init pm_InvalidNames_init cd_InvalidNames_init ct_InvalidNames_init : Value}
    {C_InvalidAmount : Addr}
    {ox_InvalidAmount : Obj}
    {f_InvalidAmount_init : Addr} {od_InvalidAmount_init an_InvalidAmount_init : Option Addr} {sl_InvalidAmount_init : Array (Option Value)} {oc_InvalidAmount_init kV_InvalidAmount_init dc_InvalidAmount_init pm_InvalidAmount_init cd_InvalidAmount_init ct_InvalidAmount_init : Value}
    {C_InvalidProgram : Addr}
    {ox_InvalidProgram : Obj}
    {f_InvalidProgram_init : Addr} {od_InvalidProgram_init an_InvalidProgram_init : Option Addr} {sl_InvalidProgram_init : Array (Option Value)} {oc_InvalidProgram_init kV_InvalidProgram_init dc_InvalidProgram_init pm_InvalidProgram_init cd_InvalidProgram_init ct_InvalidProgram_init : Value}
    {C_InvalidText : Addr}
    {ox_InvalidText : Obj}
    {f_InvalidText_init : Addr} {od_InvalidText_init an_InvalidText_init : Option Addr} {sl_InvalidText_init : Array (Option Value)} {oc_InvalidText_init kV_InvalidText_init dc_InvalidText_init pm_InvalidText_init cd_InvalidText_init ct_InvalidText_init : Value}
    {C_InvalidLength : Addr}
    {ox_InvalidLength : Obj}
    {f_InvalidLength_init : Addr} {od_InvalidLength_init an_InvalidLength_init : Option Addr} {sl_InvalidLength_init : Array (Option Value)} {oc_InvalidLength_init kV_InvalidLength_init dc_InvalidLength_init pm_InvalidLength_init cd_InvalidLength_init ct_InvalidLength_init : Value}
    {C_InvalidCount : Addr}
    {ox_InvalidCount : Obj}
    {f_InvalidCount_init : Addr} {od_InvalidCount_init an_InvalidCount_init : Option Addr} {sl_InvalidCount_init : Array (Option Value)} {oc_InvalidCount_init kV_InvalidCount_init dc_InvalidCount_init pm_InvalidCount_init cd_InvalidCount_init ct_InvalidCount_init : Value}
    {C_InvalidChanges : Addr}
    {ox_InvalidChanges : Obj}
    {f_InvalidChanges_init : Addr} {od_InvalidChanges_init an_InvalidChanges_init : Option Addr} {sl_InvalidChanges_init : Array (Option Value)} {oc_InvalidChanges_init kV_InvalidChanges_init dc_InvalidChanges_init pm_InvalidChanges_init cd_InvalidChanges_init ct_InvalidChanges_init : Value}
    {C_InvalidObservations : Addr}
    {ox_InvalidObservations : Obj}
    {f_InvalidObservations_init : Addr} {od_InvalidObservations_init an_InvalidObservations_init : Option Addr} {sl_InvalidObservations_init : Array (Option Value)} {oc_InvalidObservations_init kV_InvalidObservations_init dc_InvalidObservations_init pm_InvalidObservations_init cd_InvalidObservations_init ct_InvalidObservations_init : Value}
    {C_InvalidLimit : Addr}
    {ox_InvalidLimit : Obj}
    {f_InvalidLimit_init : Addr} {od_InvalidLimit_init an_InvalidLimit_init : Option Addr} {sl_InvalidLimit_init : Array (Option Value)} {oc_InvalidLimit_init kV_InvalidLimit_init dc_InvalidLimit_init pm_InvalidLimit_init cd_InvalidLimit_init ct_InvalidLimit_init : Value}
    {C_InvalidLine : Addr}
    {ox_InvalidLine : Obj}
    {f_InvalidLine_init : Addr} {od_InvalidLine_init an_InvalidLine_init : Option Addr} {sl_InvalidLine_init : Array (Option Value)} {oc_InvalidLine_init kV_InvalidLine_init dc_InvalidLine_init pm_InvalidLine_init cd_InvalidLine_init ct_InvalidLine_init : Value}
    {C_NotAHistory : Addr}
    {ox_NotAHistory : Obj}
    {f_NotAHistory_init : Addr} {od_NotAHistory_init an_NotAHistory_init : Option Addr} {sl_NotAHistory_init : Array (Option Value)} {oc_NotAHistory_init kV_NotAHistory_init dc_NotAHistory_init pm_NotAHistory_init cd_NotAHistory_init ct_NotAHistory_init : Value}
    {C_NotAProgram : Addr}
    {ox_NotAProgram : Obj}
    {f_NotAProgram_init : Addr} {od_NotAProgram_init an_NotAProgram_init : Option Addr} {sl_NotAProgram_init : Array (Option Value)} {oc_NotAProgram_init kV_NotAProgram_init dc_NotAProgram_init pm_NotAProgram_init cd_NotAProgram_init ct_NotAProgram_init : Value}
    {C_NotAnEffect : Addr}
    {ox_NotAnEffect : Obj}
    {f_NotAnEffect_init : Addr} {od_NotAnEffect_init an_NotAnEffect_init : Option Addr} {sl_NotAnEffect_init : Array (Option Value)} {oc_NotAnEffect_init kV_NotAnEffect_init dc_NotAnEffect_init pm_NotAnEffect_init cd_NotAnEffect_init ct_NotAnEffect_init : Value}
    {C_CannotRevert : Addr}
    {ox_CannotRevert : Obj}
    {C_Busy : Addr}
    {ox_Busy : Obj}
    {C_TooManyDiscarded : Addr}
    {ox_TooManyDiscarded : Obj}
    {f_TooManyDiscarded_init : Addr} {od_TooManyDiscarded_init an_TooManyDiscarded_init : Option Addr} {sl_TooManyDiscarded_init : Array (Option Value)} {oc_TooManyDiscarded_init kV_TooManyDiscarded_init dc_TooManyDiscarded_init pm_TooManyDiscarded_init cd_TooManyDiscarded_init ct_TooManyDiscarded_init : Value}
    {C_History : Addr}
    {T_History_init : Addr} {oT_History_init : Obj} {nT_History_init : Nat}
    {f_History_init : Addr} {od_History_init an_History_init : Option Addr} {sl_History_init : Array (Option Value)} {oc_History_init kV_History_init dc_History_init pm_History_init cd_History_init ct_History_init : Value}
    {e0_History_init : Addr} {oe0_History_init : Obj} {ne0_History_init : Nat}
    {e1_History_init : Addr} {oe1_History_init : Obj} {ne1_History_init : Nat}
    {q_History_line : Addr} {rest_History_line : List Value}
    {f_History_line : Addr} {od_History_line an_History_line : Option Addr} {sl_History_line : Array (Option Value)} {oc_History_line kV_History_line dc_History_line pm_History_line cd_History_line ct_History_line : Value}
    {f_History_do : Addr} {od_History_do an_History_do : Option Addr} {sl_History_do : Array (Option Value)} {oc_History_do kV_History_do dc_History_do pm_History_do cd_History_do ct_History_do : Value}
    {T_History_undo : Addr} {oT_History_undo : Obj} {nT_History_undo : Nat}
    {f_History_undo : Addr} {od_History_undo an_History_undo : Option Addr} {sl_History_undo : Array (Option Value)} {oc_History_undo kV_History_undo dc_History_undo pm_History_undo cd_History_undo ct_History_undo : Value}
    {w0_History_undo : Tok}
    {T_History_redo : Addr} {oT_History_redo : Obj} {nT_History_redo : Nat}
    {f_History_redo : Addr} {od_History_redo an_History_redo : Option Addr} {sl_History_redo : Array (Option Value)} {oc_History_redo kV_History_redo dc_History_redo pm_History_redo cd_History_redo ct_History_redo : Value}
    {w0_History_redo : Tok}
    {f_History_eq : Addr} {od_History_eq an_History_eq : Option Addr} {sl_History_eq : Array (Option Value)} {oc_History_eq kV_History_eq dc_History_eq pm_History_eq cd_History_eq ct_History_eq : Value}
    {q_History_of : Addr} {rest_History_of : List Value}
    {f_History_of : Addr} {od_History_of an_History_of : Option Addr} {sl_History_of : Array (Option Value)} {oc_History_of kV_History_of dc_History_of pm_History_of cd_History_of ct_History_of : Value}
    {f_History_len : Addr} {od_History_len an_History_len : Option Addr} {sl_History_len : Array (Option Value)} {oc_History_len kV_History_len dc_History_len pm_History_len cd_History_len ct_History_len : Value}
    (a_IsName : PySem.W.nsIn K mainGlobals "is_name" = some (some (.ref f_IsName)))
    (l_IsName : K.lookup f_IsName = some ⟨oc_IsName, od_IsName, .func (PySem.W.fnOf "is_name" "is_name" (defArgs sIsName) (defBody sIsName) (defScope sIsName) .none kV_IsName dc_IsName pm_IsName an_IsName cd_IsName ct_IsName), sl_IsName⟩)
    (c_IsName : PySem.W.codeIn K cd_IsName "is_name" = true)
    (k_IsName : PySem.W.keepIn K (.ref f_IsName) = true)
    (a_IsAm : PySem.W.nsIn K mainGlobals "is_amount" = some (some (.ref f_IsAm)))
    (l_IsAm : K.lookup f_IsAm = some ⟨oc_IsAm, od_IsAm, .func (PySem.W.fnOf "is_amount" "is_amount" (defArgs sIsAm) (defBody sIsAm) (defScope sIsAm) .none kV_IsAm dc_IsAm pm_IsAm an_IsAm cd_IsAm ct_IsAm), sl_IsAm⟩)
    (c_IsAm : PySem.W.codeIn K cd_IsAm "is_amount" = true)
    (k_IsAm : PySem.W.keepIn K (.ref f_IsAm) = true)
    (a_ChName : PySem.W.nsIn K mainGlobals "check_name" = some (some (.ref f_ChName)))
    (l_ChName : K.lookup f_ChName = some ⟨oc_ChName, od_ChName, .func (PySem.W.fnOf "check_name" "check_name" (defArgs sChName) (defBody sChName) (defScope sChName) .none kV_ChName dc_ChName pm_ChName an_ChName cd_ChName ct_ChName), sl_ChName⟩)
    (c_ChName : PySem.W.codeIn K cd_ChName "check_name" = true)
    (k_ChName : PySem.W.keepIn K (.ref f_ChName) = true)
    (a_ChNames : PySem.W.nsIn K mainGlobals "check_names" = some (some (.ref f_ChNames)))
    (l_ChNames : K.lookup f_ChNames = some ⟨oc_ChNames, od_ChNames, .func (PySem.W.fnOf "check_names" "check_names" (defArgs sChNames) (defBody sChNames) (defScope sChNames) .none kV_ChNames dc_ChNames pm_ChNames an_ChNames cd_ChNames ct_ChNames), sl_ChNames⟩)
    (c_ChNames : PySem.W.codeIn K cd_ChNames "check_names" = true)
    (k_ChNames : PySem.W.keepIn K (.ref f_ChNames) = true)
    (a_ChAm : PySem.W.nsIn K mainGlobals "check_amount" = some (some (.ref f_ChAm)))
    (l_ChAm : K.lookup f_ChAm = some ⟨oc_ChAm, od_ChAm, .func (PySem.W.fnOf "check_amount" "check_amount" (defArgs sChAm) (defBody sChAm) (defScope sChAm) .none kV_ChAm dc_ChAm pm_ChAm an_ChAm cd_ChAm ct_ChAm), sl_ChAm⟩)
    (c_ChAm : PySem.W.codeIn K cd_ChAm "check_amount" = true)
    (k_ChAm : PySem.W.keepIn K (.ref f_ChAm) = true)
    (a_Moved : PySem.W.nsIn K mainGlobals "number_moved" = some (some (.ref f_Moved)))
    (l_Moved : K.lookup f_Moved = some ⟨oc_Moved, od_Moved, .func (PySem.W.fnOf "number_moved" "number_moved" (defArgs sMoved) (defBody sMoved) (defScope sMoved) .none kV_Moved dc_Moved pm_Moved an_Moved cd_Moved ct_Moved), sl_Moved⟩)
    (c_Moved : PySem.W.codeIn K cd_Moved "number_moved" = true)
    (k_Moved : PySem.W.keepIn K (.ref f_Moved) = true)
    (a_HWith : PySem.W.nsIn K mainGlobals "history_with" = some (some (.ref f_HWith)))
    (l_HWith : K.lookup f_HWith = some ⟨oc_HWith, od_HWith, .func (PySem.W.fnOf "history_with" "history_with" (defArgs sHWith) (defBody sHWith) (defScope sHWith) .none kV_HWith dc_HWith pm_HWith an_HWith cd_HWith ct_HWith), sl_HWith⟩)
    (c_HWith : PySem.W.codeIn K cd_HWith "history_with" = true)
    (k_HWith : PySem.W.keepIn K (.ref f_HWith) = true)
    (a_Cell : PySem.W.nsIn K mainGlobals "_law_cell" = some (some (.ref f_Cell)))
    (l_Cell : K.lookup f_Cell = some ⟨oc_Cell, od_Cell, .func (PySem.W.fnOf "_law_cell" "_law_cell" (defArgs sCell) (defBody sCell) (defScope sCell) .none kV_Cell dc_Cell pm_Cell an_Cell cd_Cell ct_Cell), sl_Cell⟩)
    (c_Cell : PySem.W.codeIn K cd_Cell "_law_cell" = true)
    (k_Cell : PySem.W.keepIn K (.ref f_Cell) = true)
    (a_Pool : PySem.W.nsIn K mainGlobals "_law_pool" = some (some (.ref f_Pool)))
    (l_Pool : K.lookup f_Pool = some ⟨oc_Pool, od_Pool, .func (PySem.W.fnOf "_law_pool" "_law_pool" (defArgs sPool) (defBody sPool) (defScope sPool) .none kV_Pool dc_Pool pm_Pool an_Pool cd_Pool ct_Pool), sl_Pool⟩)
    (c_Pool : PySem.W.codeIn K cd_Pool "_law_pool" = true)
    (k_Pool : PySem.W.keepIn K (.ref f_Pool) = true)
    (a_Draw : PySem.W.nsIn K mainGlobals "_law_draw" = some (some (.ref f_Draw)))
    (l_Draw : K.lookup f_Draw = some ⟨oc_Draw, od_Draw, .func (PySem.W.fnOf "_law_draw" "_law_draw" (defArgs sDraw) (defBody sDraw) (defScope sDraw) .none kV_Draw dc_Draw pm_Draw an_Draw cd_Draw ct_Draw), sl_Draw⟩)
    (c_Draw : PySem.W.codeIn K cd_Draw "_law_draw" = true)
    (k_Draw : PySem.W.keepIn K (.ref f_Draw) = true)
    (a_Calls : PySem.W.nsIn K mainGlobals "_law_calls" = some (some (.ref f_Calls)))
    (l_Calls : K.lookup f_Calls = some ⟨oc_Calls, od_Calls, .func (PySem.W.fnOf "_law_calls" "_law_calls" (defArgs sCalls) (defBody sCalls) (defScope sCalls) .none kV_Calls dc_Calls pm_Calls an_Calls cd_Calls ct_Calls), sl_Calls⟩)
    (c_Calls : PySem.W.codeIn K cd_Calls "_law_calls" = true)
    (k_Calls : PySem.W.keepIn K (.ref f_Calls) = true)
    (a_Error : PySem.W.nsIn K mainGlobals "_law_error" = some (some (.ref f_Error)))
    (l_Error : K.lookup f_Error = some ⟨oc_Error, od_Error, .func (PySem.W.fnOf "_law_error" "_law_error" (defArgs sError) (defBody sError) (defScope sError) .none kV_Error dc_Error pm_Error an_Error cd_Error ct_Error), sl_Error⟩)
    (c_Error : PySem.W.codeIn K cd_Error "_law_error" = true)
    (k_Error : PySem.W.keepIn K (.ref f_Error) = true)
    (a_Caught : PySem.W.nsIn K mainGlobals "_law_caught" = some (some (.ref f_Caught)))
    (l_Caught : K.lookup f_Caught = some ⟨oc_Caught, od_Caught, .func (PySem.W.fnOf "_law_caught" "_law_caught" (defArgs sCaught) (defBody sCaught) (defScope sCaught) .none kV_Caught dc_Caught pm_Caught an_Caught cd_Caught ct_Caught), sl_Caught⟩)
    (c_Caught : PySem.W.codeIn K cd_Caught "_law_caught" = true)
    (k_Caught : PySem.W.keepIn K (.ref f_Caught) = true)
    (a_Bad : PySem.W.nsIn K mainGlobals "_law_bad" = some (some (.ref f_Bad)))
    (l_Bad : K.lookup f_Bad = some ⟨oc_Bad, od_Bad, .func (PySem.W.fnOf "_law_bad" "_law_bad" (defArgs sBad) (defBody sBad) (defScope sBad) .none kV_Bad dc_Bad pm_Bad an_Bad cd_Bad ct_Bad), sl_Bad⟩)
    (c_Bad : PySem.W.codeIn K cd_Bad "_law_bad" = true)
    (k_Bad : PySem.W.keepIn K (.ref f_Bad) = true)
    (a_LMade : PySem.W.nsIn K mainGlobals "_law_made" = some (some (.ref f_LMade)))
    (l_LMade : K.lookup f_LMade = some ⟨oc_LMade, od_LMade, .func (PySem.W.fnOf "_law_made" "_law_made" (defArgs sLMade) (defBody sLMade) (defScope sLMade) .none kV_LMade dc_LMade pm_LMade an_LMade (.ref cc_LMade) ct_LMade), sl_LMade⟩)
    (c_LMade : PySem.W.codeIn K (.ref cc_LMade) "_law_made" = true)
    (k_LMade : PySem.W.keepIn K (.ref f_LMade) = true)
    (lc_LMade : K.lookup cc_LMade = some ocd_LMade)
    (pt_LMade : codeTab ocd_LMade = some P_LMade)
    (okc_LMade : codeOk ocd_LMade cc_LMade P_LMade = true)
    (nt_LMade : K.lookup P_LMade = none)
    (ht_LMade : h.get? P_LMade = some { cls := .none, data := .fields #[] })
    (a_Shown : PySem.W.nsIn K mainGlobals "_law_shown_right" = some (some (.ref f_Shown)))
    (l_Shown : K.lookup f_Shown = some ⟨oc_Shown, od_Shown, .func (PySem.W.fnOf "_law_shown_right" "_law_shown_right" (defArgs sShown) (defBody sShown) (defScope sShown) .none kV_Shown dc_Shown pm_Shown an_Shown cd_Shown ct_Shown), sl_Shown⟩)
    (c_Shown : PySem.W.codeIn K cd_Shown "_law_shown_right" = true)
    (k_Shown : PySem.W.keepIn K (.ref f_Shown) = true)
    (a_Right : PySem.W.nsIn K mainGlobals "_law_right" = some (some (.ref f_Right)))
    (l_Right : K.lookup f_Right = some ⟨oc_Right, od_Right, .func (PySem.W.fnOf "_law_right" "_law_right" (defArgs sRight) (defBody sRight) (defScope sRight) .none kV_Right dc_Right pm_Right an_Right cd_Right ct_Right), sl_Right⟩)
    (c_Right : PySem.W.codeIn K cd_Right "_law_right" = true)
    (k_Right : PySem.W.keepIn K (.ref f_Right) = true)
    (a_OfRight : PySem.W.nsIn K mainGlobals "_law_of_right" = some (some (.ref f_OfRight)))
    (l_OfRight : K.lookup f_OfRight = some ⟨oc_OfRight, od_OfRight, .func (PySem.W.fnOf "_law_of_right" "_law_of_right" (defArgs sOfRight) (defBody sOfRight) (defScope sOfRight) .none kV_OfRight dc_OfRight pm_OfRight an_OfRight (.ref cc_OfRight) ct_OfRight), sl_OfRight⟩)
    (c_OfRight : PySem.W.codeIn K (.ref cc_OfRight) "_law_of_right" = true)
    (k_OfRight : PySem.W.keepIn K (.ref f_OfRight) = true)
    (lc_OfRight : K.lookup cc_OfRight = some ocd_OfRight)
    (pt_OfRight : codeTab ocd_OfRight = some P_OfRight)
    (okc_OfRight : codeOk ocd_OfRight cc_OfRight P_OfRight = true)
    (nt_OfRight : K.lookup P_OfRight = none)
    (ht_OfRight : h.get? P_OfRight = some { cls := .none, data := .fields #[] })
    (a_Law : PySem.W.nsIn K mainGlobals "law" = some (some (.ref f_Law)))
    (l_Law : K.lookup f_Law = some ⟨oc_Law, od_Law, .func (PySem.W.fnOf "law" "law" (defArgs sLaw) (defBody sLaw) (defScope sLaw) .none kV_Law dc_Law pm_Law an_Law cd_Law ct_Law), sl_Law⟩)
    (c_Law : PySem.W.codeIn K cd_Law "law" = true)
    (k_Law : PySem.W.keepIn K (.ref f_Law) = true)
    (z_abs : PySem.W.nsIn K mainGlobals "abs" = some none)
    (z_all : PySem.W.nsIn K mainGlobals "all" = some none)
    (z_any : PySem.W.nsIn K mainGlobals "any" = some none)
    (z_bool : PySem.W.nsIn K mainGlobals "bool" = some none)
    (z_divmod : PySem.W.nsIn K mainGlobals "divmod" = some none)
    (z_enumerate : PySem.W.nsIn K mainGlobals "enumerate" = some none)
    (z_int : PySem.W.nsIn K mainGlobals "int" = some none)
    (z_isinstance : PySem.W.nsIn K mainGlobals "isinstance" = some none)
    (z_len : PySem.W.nsIn K mainGlobals "len" = some none)
    (z_list : PySem.W.nsIn K mainGlobals "list" = some none)
    (z_max : PySem.W.nsIn K mainGlobals "max" = some none)
    (z_min : PySem.W.nsIn K mainGlobals "min" = some none)
    (z_range : PySem.W.nsIn K mainGlobals "range" = some none)
    (z_repr : PySem.W.nsIn K mainGlobals "repr" = some none)
    (z_str : PySem.W.nsIn K mainGlobals "str" = some none)
    (z_tuple : PySem.W.nsIn K mainGlobals "tuple" = some none)
    (z_ValueError : PySem.W.nsIn K mainGlobals "ValueError" = some none)
    (z_LookupError : PySem.W.nsIn K mainGlobals "LookupError" = some none)
    (z_ArithmeticError : PySem.W.nsIn K mainGlobals "ArithmeticError" = some none)
    (a_LONGEST_NAME : PySem.W.nsIn K mainGlobals "LONGEST_NAME" = some (some (.int 8 t_LONGEST_NAME)))
    (nd_tab : ([(P_LMade, lamQ "_law_made"), (P_OfRight, lamQ "_law_of_right")] : List (Addr × Str)).Pairwise fun a b => a.1 ≠ b.1)
    (aC_UndoError : PySem.W.nsIn K mainGlobals "UndoError" = some (some (.ref C_UndoError)))
    (bx_UndoError : PySem.W.subIn K (.ref C_UndoError) (.type "BaseException") = some true)
    (bi_UndoError : PySem.W.isClsIn K C_UndoError = true)
    (bt_UndoError : PySem.W.typeIn K (.ref C_UndoError) = some (.type "type"))
    (aC_StateError : PySem.W.nsIn K mainGlobals "StateError" = some (some (.ref C_StateError)))
    (bx_StateError : PySem.W.subIn K (.ref C_StateError) (.type "BaseException") = some true)
    (bi_StateError : PySem.W.isClsIn K C_StateError = true)
    (bt_StateError : PySem.W.typeIn K (.ref C_StateError) = some (.type "type"))
    (aC_LimitError : PySem.W.nsIn K mainGlobals "LimitError" = some (some (.ref C_LimitError)))
    (bx_LimitError : PySem.W.subIn K (.ref C_LimitError) (.type "BaseException") = some true)
    (bi_LimitError : PySem.W.isClsIn K C_LimitError = true)
    (bt_LimitError : PySem.W.typeIn K (.ref C_LimitError) = some (.type "type"))
    (aC_InvalidName : PySem.W.nsIn K mainGlobals "InvalidName" = some (some (.ref C_InvalidName)))
    (lx_InvalidName : K.lookup C_InvalidName = some ox_InvalidName)
    (xcl_InvalidName : ∃ nm q N bs sn sub ab col dd k0 k1 k2 k3 k5, ox_InvalidName = PySem.excClassObj nm q C_InvalidName N bs (.ref C_UndoError :: [.type "ValueError", .type "Exception", .type "BaseException", .type "object"]) true sn sub ab col dd k0 k1 k2 k3 k5 "ValueError.__new__")
    (esa_InvalidName : PySem.W.findIn K (.ref C_InvalidName) "__setattr__" = some (some (.builtin "object.__setattr__")))
    (ega_InvalidName : PySem.W.findIn K (.ref C_InvalidName) "__getattribute__" = some (some (.builtin "BaseException.__getattribute__")))
    (egg_InvalidName : PySem.W.findIn K (.ref C_InvalidName) "__getattr__" = some none)
    (eca_InvalidName : PySem.W.findIn K (.ref C_InvalidName) "__class__" = some (some (.builtin "object.__class__")))
    (ety_InvalidName : PySem.W.typeIn K (.ref C_InvalidName) = some (.type "type"))
    (ekc_InvalidName : PySem.W.keepIn K (.ref C_InvalidName) = true)
    (ei_InvalidName : PySem.W.findIn K (.ref C_InvalidName) "__init__" = some (some (.ref f_InvalidName_init)))
    (l_InvalidName_init : K.lookup f_InvalidName_init = some ⟨oc_InvalidName_init, od_InvalidName_init, .func (PySem.W.fnOf "__init__" "InvalidName.__init__" (defArgs sEInvalidName) (defBody sEInvalidName) (defScope sEInvalidName) .none kV_InvalidName_init dc_InvalidName_init pm_InvalidName_init an_InvalidName_init cd_InvalidName_init ct_InvalidName_init), sl_InvalidName_init⟩)
    (c_InvalidName_init : PySem.W.codeIn K cd_InvalidName_init "InvalidName.__init__" = true)
    (k_InvalidName_init : PySem.W.keepIn K (.ref f_InvalidName_init) = true)
    (et_InvalidName : PySem.W.typeIn K (.ref f_InvalidName_init) = some (.type "function"))
    (nf_InvalidName : PySem.W.findIn K (.ref C_InvalidName) "name" = some none)
    (aC_InvalidNames : PySem.W.nsIn K mainGlobals "InvalidNames" = some (some (.ref C_InvalidNames)))
    (lx_InvalidNames : K.lookup C_InvalidNames = some ox_InvalidNames)
    (xcl_InvalidNames : ∃ nm q N bs sn sub ab col dd k0 k1 k2 k3 k5, ox_InvalidNames = PySem.excClassObj nm q C_InvalidNames N bs (.ref C_UndoError :: [.type "ValueError", .type "Exception", .type "BaseException", .type "object"]) true sn sub ab col dd k0 k1 k2 k3 k5 "ValueError.__new__")
    (esa_InvalidNames : PySem.W.findIn K (.ref C_InvalidNames) "__setattr__" = some (some (.builtin "object.__setattr__")))
    (ega_InvalidNames : PySem.W.findIn K (.ref C_InvalidNames) "__getattribute__" = some (some (.builtin "BaseException.__getattribute__")))
    (egg_InvalidNames : PySem.W.findIn K (.ref C_InvalidNames) "__getattr__" = some none)
    (eca_InvalidNames : PySem.W.findIn K (.ref C_InvalidNames) "__class__" = some (some (.builtin "object.__class__")))
    (ety_InvalidNames : PySem.W.typeIn K (.ref C_InvalidNames) = some (.type "type"))
    (ekc_InvalidNames : PySem.W.keepIn K (.ref C_InvalidNames) = true)
    (ei_InvalidNames : PySem.W.findIn K (.ref C_InvalidNames) "__init__" = some (some (.ref f_InvalidNames_init)))
    (l_InvalidNames_init : K.lookup f_InvalidNames_init = some ⟨oc_InvalidNames_init, od_InvalidNames_init, .func (PySem.W.fnOf "__init__" "InvalidNames.__init__" (defArgs sEInvalidNames) (defBody sEInvalidNames) (defScope sEInvalidNames) .none kV_InvalidNames_init dc_InvalidNames_init pm_InvalidNames_init an_InvalidNames_init cd_InvalidNames_init ct_InvalidNames_init), sl_InvalidNames_init⟩)
    (c_InvalidNames_init : PySem.W.codeIn K cd_InvalidNames_init "InvalidNames.__init__" = true)
    (k_InvalidNames_init : PySem.W.keepIn K (.ref f_InvalidNames_init) = true)
    (et_InvalidNames : PySem.W.typeIn K (.ref f_InvalidNames_init) = some (.type "function"))
    (nf_InvalidNames : PySem.W.findIn K (.ref C_InvalidNames) "index" = some none)
    (aC_InvalidAmount : PySem.W.nsIn K mainGlobals "InvalidAmount" = some (some (.ref C_InvalidAmount)))
    (lx_InvalidAmount : K.lookup C_InvalidAmount = some ox_InvalidAmount)
    (xcl_InvalidAmount : ∃ nm q N bs sn sub ab col dd k0 k1 k2 k3 k5, ox_InvalidAmount = PySem.excClassObj nm q C_InvalidAmount N bs (.ref C_UndoError :: [.type "ValueError", .type "Exception", .type "BaseException", .type "object"]) true sn sub ab col dd k0 k1 k2 k3 k5 "ValueError.__new__")
    (esa_InvalidAmount : PySem.W.findIn K (.ref C_InvalidAmount) "__setattr__" = some (some (.builtin "object.__setattr__")))
    (ega_InvalidAmount : PySem.W.findIn K (.ref C_InvalidAmount) "__getattribute__" = some (some (.builtin "BaseException.__getattribute__")))
    (egg_InvalidAmount : PySem.W.findIn K (.ref C_InvalidAmount) "__getattr__" = some none)
    (eca_InvalidAmount : PySem.W.findIn K (.ref C_InvalidAmount) "__class__" = some (some (.builtin "object.__class__")))
    (ety_InvalidAmount : PySem.W.typeIn K (.ref C_InvalidAmount) = some (.type "type"))
    (ekc_InvalidAmount : PySem.W.keepIn K (.ref C_InvalidAmount) = true)
    (ei_InvalidAmount : PySem.W.findIn K (.ref C_InvalidAmount) "__init__" = some (some (.ref f_InvalidAmount_init)))
    (l_InvalidAmount_init : K.lookup f_InvalidAmount_init = some ⟨oc_InvalidAmount_init, od_InvalidAmount_init, .func (PySem.W.fnOf "__init__" "InvalidAmount.__init__" (defArgs sEInvalidAmount) (defBody sEInvalidAmount) (defScope sEInvalidAmount) .none kV_InvalidAmount_init dc_InvalidAmount_init pm_InvalidAmount_init an_InvalidAmount_init cd_InvalidAmount_init ct_InvalidAmount_init), sl_InvalidAmount_init⟩)
    (c_InvalidAmount_init : PySem.W.codeIn K cd_InvalidAmount_init "InvalidAmount.__init__" = true)
    (k_InvalidAmount_init : PySem.W.keepIn K (.ref f_InvalidAmount_init) = true)
    (et_InvalidAmount : PySem.W.typeIn K (.ref f_InvalidAmount_init) = some (.type "function"))
    (nf_InvalidAmount : PySem.W.findIn K (.ref C_InvalidAmount) "amount" = some none)
    (aC_InvalidProgram : PySem.W.nsIn K mainGlobals "InvalidProgram" = some (some (.ref C_InvalidProgram)))
    (lx_InvalidProgram : K.lookup C_InvalidProgram = some ox_InvalidProgram)
    (xcl_InvalidProgram : ∃ nm q N bs sn sub ab col dd k0 k1 k2 k3 k5, ox_InvalidProgram = PySem.excClassObj nm q C_InvalidProgram N bs (.ref C_UndoError :: [.type "ValueError", .type "Exception", .type "BaseException", .type "object"]) true sn sub ab col dd k0 k1 k2 k3 k5 "ValueError.__new__")
    (esa_InvalidProgram : PySem.W.findIn K (.ref C_InvalidProgram) "__setattr__" = some (some (.builtin "object.__setattr__")))
    (ega_InvalidProgram : PySem.W.findIn K (.ref C_InvalidProgram) "__getattribute__" = some (some (.builtin "BaseException.__getattribute__")))
    (egg_InvalidProgram : PySem.W.findIn K (.ref C_InvalidProgram) "__getattr__" = some none)
    (eca_InvalidProgram : PySem.W.findIn K (.ref C_InvalidProgram) "__class__" = some (some (.builtin "object.__class__")))
    (ety_InvalidProgram : PySem.W.typeIn K (.ref C_InvalidProgram) = some (.type "type"))
    (ekc_InvalidProgram : PySem.W.keepIn K (.ref C_InvalidProgram) = true)
    (ei_InvalidProgram : PySem.W.findIn K (.ref C_InvalidProgram) "__init__" = some (some (.ref f_InvalidProgram_init)))
    (l_InvalidProgram_init : K.lookup f_InvalidProgram_init = some ⟨oc_InvalidProgram_init, od_InvalidProgram_init, .func (PySem.W.fnOf "__init__" "InvalidProgram.__init__" (defArgs sEInvalidProgram) (defBody sEInvalidProgram) (defScope sEInvalidProgram) .none kV_InvalidProgram_init dc_InvalidProgram_init pm_InvalidProgram_init an_InvalidProgram_init cd_InvalidProgram_init ct_InvalidProgram_init), sl_InvalidProgram_init⟩)
    (c_InvalidProgram_init : PySem.W.codeIn K cd_InvalidProgram_init "InvalidProgram.__init__" = true)
    (k_InvalidProgram_init : PySem.W.keepIn K (.ref f_InvalidProgram_init) = true)
    (et_InvalidProgram : PySem.W.typeIn K (.ref f_InvalidProgram_init) = some (.type "function"))
    (nf_InvalidProgram : PySem.W.findIn K (.ref C_InvalidProgram) "index" = some none)
    (aC_InvalidText : PySem.W.nsIn K mainGlobals "InvalidText" = some (some (.ref C_InvalidText)))
    (lx_InvalidText : K.lookup C_InvalidText = some ox_InvalidText)
    (xcl_InvalidText : ∃ nm q N bs sn sub ab col dd k0 k1 k2 k3 k5, ox_InvalidText = PySem.excClassObj nm q C_InvalidText N bs (.ref C_UndoError :: [.type "ValueError", .type "Exception", .type "BaseException", .type "object"]) true sn sub ab col dd k0 k1 k2 k3 k5 "ValueError.__new__")
    (esa_InvalidText : PySem.W.findIn K (.ref C_InvalidText) "__setattr__" = some (some (.builtin "object.__setattr__")))
    (ega_InvalidText : PySem.W.findIn K (.ref C_InvalidText) "__getattribute__" = some (some (.builtin "BaseException.__getattribute__")))
    (egg_InvalidText : PySem.W.findIn K (.ref C_InvalidText) "__getattr__" = some none)
    (eca_InvalidText : PySem.W.findIn K (.ref C_InvalidText) "__class__" = some (some (.builtin "object.__class__")))
    (ety_InvalidText : PySem.W.typeIn K (.ref C_InvalidText) = some (.type "type"))
    (ekc_InvalidText : PySem.W.keepIn K (.ref C_InvalidText) = true)
    (ei_InvalidText : PySem.W.findIn K (.ref C_InvalidText) "__init__" = some (some (.ref f_InvalidText_init)))
    (l_InvalidText_init : K.lookup f_InvalidText_init = some ⟨oc_InvalidText_init, od_InvalidText_init, .func (PySem.W.fnOf "__init__" "InvalidText.__init__" (defArgs sEInvalidText) (defBody sEInvalidText) (defScope sEInvalidText) .none kV_InvalidText_init dc_InvalidText_init pm_InvalidText_init an_InvalidText_init cd_InvalidText_init ct_InvalidText_init), sl_InvalidText_init⟩)
    (c_InvalidText_init : PySem.W.codeIn K cd_InvalidText_init "InvalidText.__init__" = true)
    (k_InvalidText_init : PySem.W.keepIn K (.ref f_InvalidText_init) = true)
    (et_InvalidText : PySem.W.typeIn K (.ref f_InvalidText_init) = some (.type "function"))
    (nf_InvalidText : PySem.W.findIn K (.ref C_InvalidText) "text" = some none)
    (aC_InvalidLength : PySem.W.nsIn K mainGlobals "InvalidLength" = some (some (.ref C_InvalidLength)))
    (lx_InvalidLength : K.lookup C_InvalidLength = some ox_InvalidLength)
    (xcl_InvalidLength : ∃ nm q N bs sn sub ab col dd k0 k1 k2 k3 k5, ox_InvalidLength = PySem.excClassObj nm q C_InvalidLength N bs (.ref C_UndoError :: [.type "ValueError", .type "Exception", .type "BaseException", .type "object"]) true sn sub ab col dd k0 k1 k2 k3 k5 "ValueError.__new__")
    (esa_InvalidLength : PySem.W.findIn K (.ref C_InvalidLength) "__setattr__" = some (some (.builtin "object.__setattr__")))
    (ega_InvalidLength : PySem.W.findIn K (.ref C_InvalidLength) "__getattribute__" = some (some (.builtin "BaseException.__getattribute__")))
    (egg_InvalidLength : PySem.W.findIn K (.ref C_InvalidLength) "__getattr__" = some none)
    (eca_InvalidLength : PySem.W.findIn K (.ref C_InvalidLength) "__class__" = some (some (.builtin "object.__class__")))
    (ety_InvalidLength : PySem.W.typeIn K (.ref C_InvalidLength) = some (.type "type"))
    (ekc_InvalidLength : PySem.W.keepIn K (.ref C_InvalidLength) = true)
    (ei_InvalidLength : PySem.W.findIn K (.ref C_InvalidLength) "__init__" = some (some (.ref f_InvalidLength_init)))
    (l_InvalidLength_init : K.lookup f_InvalidLength_init = some ⟨oc_InvalidLength_init, od_InvalidLength_init, .func (PySem.W.fnOf "__init__" "InvalidLength.__init__" (defArgs sEInvalidLength) (defBody sEInvalidLength) (defScope sEInvalidLength) .none kV_InvalidLength_init dc_InvalidLength_init pm_InvalidLength_init an_InvalidLength_init cd_InvalidLength_init ct_InvalidLength_init), sl_InvalidLength_init⟩)
    (c_InvalidLength_init : PySem.W.codeIn K cd_InvalidLength_init "InvalidLength.__init__" = true)
    (k_InvalidLength_init : PySem.W.keepIn K (.ref f_InvalidLength_init) = true)
    (et_InvalidLength : PySem.W.typeIn K (.ref f_InvalidLength_init) = some (.type "function"))
    (nf_InvalidLength : PySem.W.findIn K (.ref C_InvalidLength) "length" = some none)
    (aC_InvalidCount : PySem.W.nsIn K mainGlobals "InvalidCount" = some (some (.ref C_InvalidCount)))
    (lx_InvalidCount : K.lookup C_InvalidCount = some ox_InvalidCount)
    (xcl_InvalidCount : ∃ nm q N bs sn sub ab col dd k0 k1 k2 k3 k5, ox_InvalidCount = PySem.excClassObj nm q C_InvalidCount N bs (.ref C_UndoError :: [.type "ValueError", .type "Exception", .type "BaseException", .type "object"]) true sn sub ab col dd k0 k1 k2 k3 k5 "ValueError.__new__")
    (esa_InvalidCount : PySem.W.findIn K (.ref C_InvalidCount) "__setattr__" = some (some (.builtin "object.__setattr__")))
    (ega_InvalidCount : PySem.W.findIn K (.ref C_InvalidCount) "__getattribute__" = some (some (.builtin "BaseException.__getattribute__")))
    (egg_InvalidCount : PySem.W.findIn K (.ref C_InvalidCount) "__getattr__" = some none)
    (eca_InvalidCount : PySem.W.findIn K (.ref C_InvalidCount) "__class__" = some (some (.builtin "object.__class__")))
    (ety_InvalidCount : PySem.W.typeIn K (.ref C_InvalidCount) = some (.type "type"))
    (ekc_InvalidCount : PySem.W.keepIn K (.ref C_InvalidCount) = true)
    (ei_InvalidCount : PySem.W.findIn K (.ref C_InvalidCount) "__init__" = some (some (.ref f_InvalidCount_init)))
    (l_InvalidCount_init : K.lookup f_InvalidCount_init = some ⟨oc_InvalidCount_init, od_InvalidCount_init, .func (PySem.W.fnOf "__init__" "InvalidCount.__init__" (defArgs sEInvalidCount) (defBody sEInvalidCount) (defScope sEInvalidCount) .none kV_InvalidCount_init dc_InvalidCount_init pm_InvalidCount_init an_InvalidCount_init cd_InvalidCount_init ct_InvalidCount_init), sl_InvalidCount_init⟩)
    (c_InvalidCount_init : PySem.W.codeIn K cd_InvalidCount_init "InvalidCount.__init__" = true)
    (k_InvalidCount_init : PySem.W.keepIn K (.ref f_InvalidCount_init) = true)
    (et_InvalidCount : PySem.W.typeIn K (.ref f_InvalidCount_init) = some (.type "function"))
    (nf_InvalidCount : PySem.W.findIn K (.ref C_InvalidCount) "count" = some none)
    (aC_InvalidChanges : PySem.W.nsIn K mainGlobals "InvalidChanges" = some (some (.ref C_InvalidChanges)))
    (lx_InvalidChanges : K.lookup C_InvalidChanges = some ox_InvalidChanges)
    (xcl_InvalidChanges : ∃ nm q N bs sn sub ab col dd k0 k1 k2 k3 k5, ox_InvalidChanges = PySem.excClassObj nm q C_InvalidChanges N bs (.ref C_UndoError :: [.type "ValueError", .type "Exception", .type "BaseException", .type "object"]) true sn sub ab col dd k0 k1 k2 k3 k5 "ValueError.__new__")
    (esa_InvalidChanges : PySem.W.findIn K (.ref C_InvalidChanges) "__setattr__" = some (some (.builtin "object.__setattr__")))
    (ega_InvalidChanges : PySem.W.findIn K (.ref C_InvalidChanges) "__getattribute__" = some (some (.builtin "BaseException.__getattribute__")))
    (egg_InvalidChanges : PySem.W.findIn K (.ref C_InvalidChanges) "__getattr__" = some none)
    (eca_InvalidChanges : PySem.W.findIn K (.ref C_InvalidChanges) "__class__" = some (some (.builtin "object.__class__")))
    (ety_InvalidChanges : PySem.W.typeIn K (.ref C_InvalidChanges) = some (.type "type"))
    (ekc_InvalidChanges : PySem.W.keepIn K (.ref C_InvalidChanges) = true)
    (ei_InvalidChanges : PySem.W.findIn K (.ref C_InvalidChanges) "__init__" = some (some (.ref f_InvalidChanges_init)))
    (l_InvalidChanges_init : K.lookup f_InvalidChanges_init = some ⟨oc_InvalidChanges_init, od_InvalidChanges_init, .func (PySem.W.fnOf "__init__" "InvalidChanges.__init__" (defArgs sEInvalidChanges) (defBody sEInvalidChanges) (defScope sEInvalidChanges) .none kV_InvalidChanges_init dc_InvalidChanges_init pm_InvalidChanges_init an_InvalidChanges_init cd_InvalidChanges_init ct_InvalidChanges_init), sl_InvalidChanges_init⟩)
    (c_InvalidChanges_init : PySem.W.codeIn K cd_InvalidChanges_init "InvalidChanges.__init__" = true)
    (k_InvalidChanges_init : PySem.W.keepIn K (.ref f_InvalidChanges_init) = true)
    (et_InvalidChanges : PySem.W.typeIn K (.ref f_InvalidChanges_init) = some (.type "function"))
    (nf_InvalidChanges : PySem.W.findIn K (.ref C_InvalidChanges) "index" = some none)
    (aC_InvalidObservations : PySem.W.nsIn K mainGlobals "InvalidObservations" = some (some (.ref C_InvalidObservations)))
    (lx_InvalidObservations : K.lookup C_InvalidObservations = some ox_InvalidObservations)
    (xcl_InvalidObservations : ∃ nm q N bs sn sub ab col dd k0 k1 k2 k3 k5, ox_InvalidObservations = PySem.excClassObj nm q C_InvalidObservations N bs (.ref C_UndoError :: [.type "ValueError", .type "Exception", .type "BaseException", .type "object"]) true sn sub ab col dd k0 k1 k2 k3 k5 "ValueError.__new__")
    (esa_InvalidObservations : PySem.W.findIn K (.ref C_InvalidObservations) "__setattr__" = some (some (.builtin "object.__setattr__")))
    (ega_InvalidObservations : PySem.W.findIn K (.ref C_InvalidObservations) "__getattribute__" = some (some (.builtin "BaseException.__getattribute__")))
    (egg_InvalidObservations : PySem.W.findIn K (.ref C_InvalidObservations) "__getattr__" = some none)
    (eca_InvalidObservations : PySem.W.findIn K (.ref C_InvalidObservations) "__class__" = some (some (.builtin "object.__class__")))
    (ety_InvalidObservations : PySem.W.typeIn K (.ref C_InvalidObservations) = some (.type "type"))
    (ekc_InvalidObservations : PySem.W.keepIn K (.ref C_InvalidObservations) = true)
    (ei_InvalidObservations : PySem.W.findIn K (.ref C_InvalidObservations) "__init__" = some (some (.ref f_InvalidObservations_init)))
    (l_InvalidObservations_init : K.lookup f_InvalidObservations_init = some ⟨oc_InvalidObservations_init, od_InvalidObservations_init, .func (PySem.W.fnOf "__init__" "InvalidObservations.__init__" (defArgs sEInvalidObservations) (defBody sEInvalidObservations) (defScope sEInvalidObservations) .none kV_InvalidObservations_init dc_InvalidObservations_init pm_InvalidObservations_init an_InvalidObservations_init cd_InvalidObservations_init ct_InvalidObservations_init), sl_InvalidObservations_init⟩)
    (c_InvalidObservations_init : PySem.W.codeIn K cd_InvalidObservations_init "InvalidObservations.__init__" = true)
    (k_InvalidObservations_init : PySem.W.keepIn K (.ref f_InvalidObservations_init) = true)
    (et_InvalidObservations : PySem.W.typeIn K (.ref f_InvalidObservations_init) = some (.type "function"))
    (nf_InvalidObservations : PySem.W.findIn K (.ref C_InvalidObservations) "index" = some none)
    (aC_InvalidLimit : PySem.W.nsIn K mainGlobals "InvalidLimit" = some (some (.ref C_InvalidLimit)))
    (lx_InvalidLimit : K.lookup C_InvalidLimit = some ox_InvalidLimit)
    (xcl_InvalidLimit : ∃ nm q N bs sn sub ab col dd k0 k1 k2 k3 k5, ox_InvalidLimit = PySem.excClassObj nm q C_InvalidLimit N bs (.ref C_UndoError :: [.type "ValueError", .type "Exception", .type "BaseException", .type "object"]) true sn sub ab col dd k0 k1 k2 k3 k5 "ValueError.__new__")
    (esa_InvalidLimit : PySem.W.findIn K (.ref C_InvalidLimit) "__setattr__" = some (some (.builtin "object.__setattr__")))
    (ega_InvalidLimit : PySem.W.findIn K (.ref C_InvalidLimit) "__getattribute__" = some (some (.builtin "BaseException.__getattribute__")))
    (egg_InvalidLimit : PySem.W.findIn K (.ref C_InvalidLimit) "__getattr__" = some none)
    (eca_InvalidLimit : PySem.W.findIn K (.ref C_InvalidLimit) "__class__" = some (some (.builtin "object.__class__")))
    (ety_InvalidLimit : PySem.W.typeIn K (.ref C_InvalidLimit) = some (.type "type"))
    (ekc_InvalidLimit : PySem.W.keepIn K (.ref C_InvalidLimit) = true)
    (ei_InvalidLimit : PySem.W.findIn K (.ref C_InvalidLimit) "__init__" = some (some (.ref f_InvalidLimit_init)))
    (l_InvalidLimit_init : K.lookup f_InvalidLimit_init = some ⟨oc_InvalidLimit_init, od_InvalidLimit_init, .func (PySem.W.fnOf "__init__" "InvalidLimit.__init__" (defArgs sEInvalidLimit) (defBody sEInvalidLimit) (defScope sEInvalidLimit) .none kV_InvalidLimit_init dc_InvalidLimit_init pm_InvalidLimit_init an_InvalidLimit_init cd_InvalidLimit_init ct_InvalidLimit_init), sl_InvalidLimit_init⟩)
    (c_InvalidLimit_init : PySem.W.codeIn K cd_InvalidLimit_init "InvalidLimit.__init__" = true)
    (k_InvalidLimit_init : PySem.W.keepIn K (.ref f_InvalidLimit_init) = true)
    (et_InvalidLimit : PySem.W.typeIn K (.ref f_InvalidLimit_init) = some (.type "function"))
    (nf_InvalidLimit : PySem.W.findIn K (.ref C_InvalidLimit) "value" = some none)
    (aC_InvalidLine : PySem.W.nsIn K mainGlobals "InvalidLine" = some (some (.ref C_InvalidLine)))
    (lx_InvalidLine : K.lookup C_InvalidLine = some ox_InvalidLine)
    (xcl_InvalidLine : ∃ nm q N bs sn sub ab col dd k0 k1 k2 k3 k5, ox_InvalidLine = PySem.excClassObj nm q C_InvalidLine N bs (.ref C_UndoError :: [.type "ValueError", .type "Exception", .type "BaseException", .type "object"]) true sn sub ab col dd k0 k1 k2 k3 k5 "ValueError.__new__")
    (esa_InvalidLine : PySem.W.findIn K (.ref C_InvalidLine) "__setattr__" = some (some (.builtin "object.__setattr__")))
    (ega_InvalidLine : PySem.W.findIn K (.ref C_InvalidLine) "__getattribute__" = some (some (.builtin "BaseException.__getattribute__")))
    (egg_InvalidLine : PySem.W.findIn K (.ref C_InvalidLine) "__getattr__" = some none)
    (eca_InvalidLine : PySem.W.findIn K (.ref C_InvalidLine) "__class__" = some (some (.builtin "object.__class__")))
    (ety_InvalidLine : PySem.W.typeIn K (.ref C_InvalidLine) = some (.type "type"))
    (ekc_InvalidLine : PySem.W.keepIn K (.ref C_InvalidLine) = true)
    (ei_InvalidLine : PySem.W.findIn K (.ref C_InvalidLine) "__init__" = some (some (.ref f_InvalidLine_init)))
    (l_InvalidLine_init : K.lookup f_InvalidLine_init = some ⟨oc_InvalidLine_init, od_InvalidLine_init, .func (PySem.W.fnOf "__init__" "InvalidLine.__init__" (defArgs sEInvalidLine) (defBody sEInvalidLine) (defScope sEInvalidLine) .none kV_InvalidLine_init dc_InvalidLine_init pm_InvalidLine_init an_InvalidLine_init cd_InvalidLine_init ct_InvalidLine_init), sl_InvalidLine_init⟩)
    (c_InvalidLine_init : PySem.W.codeIn K cd_InvalidLine_init "InvalidLine.__init__" = true)
    (k_InvalidLine_init : PySem.W.keepIn K (.ref f_InvalidLine_init) = true)
    (et_InvalidLine : PySem.W.typeIn K (.ref f_InvalidLine_init) = some (.type "function"))
    (nf_InvalidLine : PySem.W.findIn K (.ref C_InvalidLine) "text" = some none)
    (aC_NotAHistory : PySem.W.nsIn K mainGlobals "NotAHistory" = some (some (.ref C_NotAHistory)))
    (lx_NotAHistory : K.lookup C_NotAHistory = some ox_NotAHistory)
    (xcl_NotAHistory : ∃ nm q N bs sn sub ab col dd k0 k1 k2 k3 k5, ox_NotAHistory = PySem.excClassObj nm q C_NotAHistory N bs (.ref C_UndoError :: [.type "ValueError", .type "Exception", .type "BaseException", .type "object"]) true sn sub ab col dd k0 k1 k2 k3 k5 "ValueError.__new__")
    (esa_NotAHistory : PySem.W.findIn K (.ref C_NotAHistory) "__setattr__" = some (some (.builtin "object.__setattr__")))
    (ega_NotAHistory : PySem.W.findIn K (.ref C_NotAHistory) "__getattribute__" = some (some (.builtin "BaseException.__getattribute__")))
    (egg_NotAHistory : PySem.W.findIn K (.ref C_NotAHistory) "__getattr__" = some none)
    (eca_NotAHistory : PySem.W.findIn K (.ref C_NotAHistory) "__class__" = some (some (.builtin "object.__class__")))
    (ety_NotAHistory : PySem.W.typeIn K (.ref C_NotAHistory) = some (.type "type"))
    (ekc_NotAHistory : PySem.W.keepIn K (.ref C_NotAHistory) = true)
    (ei_NotAHistory : PySem.W.findIn K (.ref C_NotAHistory) "__init__" = some (some (.ref f_NotAHistory_init)))
    (l_NotAHistory_init : K.lookup f_NotAHistory_init = some ⟨oc_NotAHistory_init, od_NotAHistory_init, .func (PySem.W.fnOf "__init__" "NotAHistory.__init__" (defArgs sENotAHistory) (defBody sENotAHistory) (defScope sENotAHistory) .none kV_NotAHistory_init dc_NotAHistory_init pm_NotAHistory_init an_NotAHistory_init cd_NotAHistory_init ct_NotAHistory_init), sl_NotAHistory_init⟩)
    (c_NotAHistory_init : PySem.W.codeIn K cd_NotAHistory_init "NotAHistory.__init__" = true)
    (k_NotAHistory_init : PySem.W.keepIn K (.ref f_NotAHistory_init) = true)
    (et_NotAHistory : PySem.W.typeIn K (.ref f_NotAHistory_init) = some (.type "function"))
    (nf_NotAHistory : PySem.W.findIn K (.ref C_NotAHistory) "value" = some none)
    (aC_NotAProgram : PySem.W.nsIn K mainGlobals "NotAProgram" = some (some (.ref C_NotAProgram)))
    (lx_NotAProgram : K.lookup C_NotAProgram = some ox_NotAProgram)
    (xcl_NotAProgram : ∃ nm q N bs sn sub ab col dd k0 k1 k2 k3 k5, ox_NotAProgram = PySem.excClassObj nm q C_NotAProgram N bs (.ref C_UndoError :: [.type "ValueError", .type "Exception", .type "BaseException", .type "object"]) true sn sub ab col dd k0 k1 k2 k3 k5 "ValueError.__new__")
    (esa_NotAProgram : PySem.W.findIn K (.ref C_NotAProgram) "__setattr__" = some (some (.builtin "object.__setattr__")))
    (ega_NotAProgram : PySem.W.findIn K (.ref C_NotAProgram) "__getattribute__" = some (some (.builtin "BaseException.__getattribute__")))
    (egg_NotAProgram : PySem.W.findIn K (.ref C_NotAProgram) "__getattr__" = some none)
    (eca_NotAProgram : PySem.W.findIn K (.ref C_NotAProgram) "__class__" = some (some (.builtin "object.__class__")))
    (ety_NotAProgram : PySem.W.typeIn K (.ref C_NotAProgram) = some (.type "type"))
    (ekc_NotAProgram : PySem.W.keepIn K (.ref C_NotAProgram) = true)
    (ei_NotAProgram : PySem.W.findIn K (.ref C_NotAProgram) "__init__" = some (some (.ref f_NotAProgram_init)))
    (l_NotAProgram_init : K.lookup f_NotAProgram_init = some ⟨oc_NotAProgram_init, od_NotAProgram_init, .func (PySem.W.fnOf "__init__" "NotAProgram.__init__" (defArgs sENotAProgram) (defBody sENotAProgram) (defScope sENotAProgram) .none kV_NotAProgram_init dc_NotAProgram_init pm_NotAProgram_init an_NotAProgram_init cd_NotAProgram_init ct_NotAProgram_init), sl_NotAProgram_init⟩)
    (c_NotAProgram_init : PySem.W.codeIn K cd_NotAProgram_init "NotAProgram.__init__" = true)
    (k_NotAProgram_init : PySem.W.keepIn K (.ref f_NotAProgram_init) = true)
    (et_NotAProgram : PySem.W.typeIn K (.ref f_NotAProgram_init) = some (.type "function"))
    (nf_NotAProgram : PySem.W.findIn K (.ref C_NotAProgram) "value" = some none)
    (aC_NotAnEffect : PySem.W.nsIn K mainGlobals "NotAnEffect" = some (some (.ref C_NotAnEffect)))
    (lx_NotAnEffect : K.lookup C_NotAnEffect = some ox_NotAnEffect)
    (xcl_NotAnEffect : ∃ nm q N bs sn sub ab col dd k0 k1 k2 k3 k5, ox_NotAnEffect = PySem.excClassObj nm q C_NotAnEffect N bs (.ref C_UndoError :: [.type "ValueError", .type "Exception", .type "BaseException", .type "object"]) true sn sub ab col dd k0 k1 k2 k3 k5 "ValueError.__new__")
    (esa_NotAnEffect : PySem.W.findIn K (.ref C_NotAnEffect) "__setattr__" = some (some (.builtin "object.__setattr__")))
    (ega_NotAnEffect : PySem.W.findIn K (.ref C_NotAnEffect) "__getattribute__" = some (some (.builtin "BaseException.__getattribute__")))
    (egg_NotAnEffect : PySem.W.findIn K (.ref C_NotAnEffect) "__getattr__" = some none)
    (eca_NotAnEffect : PySem.W.findIn K (.ref C_NotAnEffect) "__class__" = some (some (.builtin "object.__class__")))
    (ety_NotAnEffect : PySem.W.typeIn K (.ref C_NotAnEffect) = some (.type "type"))
    (ekc_NotAnEffect : PySem.W.keepIn K (.ref C_NotAnEffect) = true)
    (ei_NotAnEffect : PySem.W.findIn K (.ref C_NotAnEffect) "__init__" = some (some (.ref f_NotAnEffect_init)))
    (l_NotAnEffect_init : K.lookup f_NotAnEffect_init = some ⟨oc_NotAnEffect_init, od_NotAnEffect_init, .func (PySem.W.fnOf "__init__" "NotAnEffect.__init__" (defArgs sENotAnEffect) (defBody sENotAnEffect) (defScope sENotAnEffect) .none kV_NotAnEffect_init dc_NotAnEffect_init pm_NotAnEffect_init an_NotAnEffect_init cd_NotAnEffect_init ct_NotAnEffect_init), sl_NotAnEffect_init⟩)
    (c_NotAnEffect_init : PySem.W.codeIn K cd_NotAnEffect_init "NotAnEffect.__init__" = true)
    (k_NotAnEffect_init : PySem.W.keepIn K (.ref f_NotAnEffect_init) = true)
    (et_NotAnEffect : PySem.W.typeIn K (.ref f_NotAnEffect_init) = some (.type "function"))
    (nf_NotAnEffect : PySem.W.findIn K (.ref C_NotAnEffect) "value" = some none)
    (aC_CannotRevert : PySem.W.nsIn K mainGlobals "CannotRevert" = some (some (.ref C_CannotRevert)))
    (lx_CannotRevert : K.lookup C_CannotRevert = some ox_CannotRevert)
    (xcl_CannotRevert : ∃ nm q N bs sn sub ab col dd k0 k1 k2 k3 k5, ox_CannotRevert = PySem.excClassObj nm q C_CannotRevert N bs (.ref C_StateError :: [.type "LookupError", .type "Exception", .type "BaseException", .type "object"]) true sn sub ab col dd k0 k1 k2 k3 k5 "LookupError.__new__")
    (esa_CannotRevert : PySem.W.findIn K (.ref C_CannotRevert) "__setattr__" = some (some (.builtin "object.__setattr__")))
    (ega_CannotRevert : PySem.W.findIn K (.ref C_CannotRevert) "__getattribute__" = some (some (.builtin "BaseException.__getattribute__")))
    (egg_CannotRevert : PySem.W.findIn K (.ref C_CannotRevert) "__getattr__" = some none)
    (eca_CannotRevert : PySem.W.findIn K (.ref C_CannotRevert) "__class__" = some (some (.builtin "object.__class__")))
    (ety_CannotRevert : PySem.W.typeIn K (.ref C_CannotRevert) = some (.type "type"))
    (ekc_CannotRevert : PySem.W.keepIn K (.ref C_CannotRevert) = true)
    (ex_CannotRevert : PySem.W.excIn K C_CannotRevert [.type "LookupError", .type "Exception", .type "BaseException", .type "object"] "LookupError.__new__" = true)
    (aC_Busy : PySem.W.nsIn K mainGlobals "Busy" = some (some (.ref C_Busy)))
    (lx_Busy : K.lookup C_Busy = some ox_Busy)
    (xcl_Busy : ∃ nm q N bs sn sub ab col dd k0 k1 k2 k3 k5, ox_Busy = PySem.excClassObj nm q C_Busy N bs (.ref C_StateError :: [.type "LookupError", .type "Exception", .type "BaseException", .type "object"]) true sn sub ab col dd k0 k1 k2 k3 k5 "LookupError.__new__")
    (esa_Busy : PySem.W.findIn K (.ref C_Busy) "__setattr__" = some (some (.builtin "object.__setattr__")))
    (ega_Busy : PySem.W.findIn K (.ref C_Busy) "__getattribute__" = some (some (.builtin "BaseException.__getattribute__")))
    (egg_Busy : PySem.W.findIn K (.ref C_Busy) "__getattr__" = some none)
    (eca_Busy : PySem.W.findIn K (.ref C_Busy) "__class__" = some (some (.builtin "object.__class__")))
    (ety_Busy : PySem.W.typeIn K (.ref C_Busy) = some (.type "type"))
    (ekc_Busy : PySem.W.keepIn K (.ref C_Busy) = true)
    (ex_Busy : PySem.W.excIn K C_Busy [.type "LookupError", .type "Exception", .type "BaseException", .type "object"] "LookupError.__new__" = true)
    (aC_TooManyDiscarded : PySem.W.nsIn K mainGlobals "TooManyDiscarded" = some (some (.ref C_TooManyDiscarded)))
    (lx_TooManyDiscarded : K.lookup C_TooManyDiscarded = some ox_TooManyDiscarded)
    (xcl_TooManyDiscarded : ∃ nm q N bs sn sub ab col dd k0 k1 k2 k3 k5, ox_TooManyDiscarded = PySem.excClassObj nm q C_TooManyDiscarded N bs (.ref C_LimitError :: [.type "ArithmeticError", .type "Exception", .type "BaseException", .type "object"]) true sn sub ab col dd k0 k1 k2 k3 k5 "ArithmeticError.__new__")
    (esa_TooManyDiscarded : PySem.W.findIn K (.ref C_TooManyDiscarded) "__setattr__" = some (some (.builtin "object.__setattr__")))
    (ega_TooManyDiscarded : PySem.W.findIn K (.ref C_TooManyDiscarded) "__getattribute__" = some (some (.builtin "BaseException.__getattribute__")))
    (egg_TooManyDiscarded : PySem.W.findIn K (.ref C_TooManyDiscarded) "__getattr__" = some none)
    (eca_TooManyDiscarded : PySem.W.findIn K (.ref C_TooManyDiscarded) "__class__" = some (some (.builtin "object.__class__")))
    (ety_TooManyDiscarded : PySem.W.typeIn K (.ref C_TooManyDiscarded) = some (.type "type"))
    (ekc_TooManyDiscarded : PySem.W.keepIn K (.ref C_TooManyDiscarded) = true)
    (ei_TooManyDiscarded : PySem.W.findIn K (.ref C_TooManyDiscarded) "__init__" = some (some (.ref f_TooManyDiscarded_init)))
    (l_TooManyDiscarded_init : K.lookup f_TooManyDiscarded_init = some ⟨oc_TooManyDiscarded_init, od_TooManyDiscarded_init, .func (PySem.W.fnOf "__init__" "TooManyDiscarded.__init__" (defArgs sETooManyDiscarded) (defBody sETooManyDiscarded) (defScope sETooManyDiscarded) .none kV_TooManyDiscarded_init dc_TooManyDiscarded_init pm_TooManyDiscarded_init an_TooManyDiscarded_init cd_TooManyDiscarded_init ct_TooManyDiscarded_init), sl_TooManyDiscarded_init⟩)
    (c_TooManyDiscarded_init : PySem.W.codeIn K cd_TooManyDiscarded_init "TooManyDiscarded.__init__" = true)
    (k_TooManyDiscarded_init : PySem.W.keepIn K (.ref f_TooManyDiscarded_init) = true)
    (et_TooManyDiscarded : PySem.W.typeIn K (.ref f_TooManyDiscarded_init) = some (.type "function"))
    (nf_TooManyDiscarded : PySem.W.findIn K (.ref C_TooManyDiscarded) "count" = some none)
    (cg_hn : PySem.W.specialIn K (.builtin "object.__class__") "__get__" = some (some (.builtin "getset_descriptor.__get__")))
    (cg_ht : PySem.W.takesIn K (.builtin "object.__class__") = some true)
    (nd_err : [C_InvalidName, C_InvalidNames, C_InvalidAmount, C_InvalidProgram, C_InvalidText, C_InvalidLength, C_InvalidCount, C_InvalidChanges, C_InvalidObservations, C_InvalidLimit, C_InvalidLine, C_NotAHistory, C_NotAProgram, C_NotAnEffect, C_CannotRevert, C_Busy, C_TooManyDiscarded, C_UndoError, C_StateError, C_LimitError].Nodup)
    (aC_History : PySem.W.nsIn K mainGlobals "History" = some (some (.ref C_History)))
    (pg_History : PySem.W.plainGet K C_History Str.empty = true)
    (hd_History : PySem.W.hasDictIn K C_History = true)
    (po_History : PySem.W.plainOver K C_History = true)
    (sa_History : PySem.W.findIn K (.ref C_History) "__setattr__" = some (some (.builtin "object.__setattr__")))
    (mk_History : PySem.W.makesIn K C_History = true)
    (kc_History : PySem.W.keepIn K (.ref C_History) = true)
    (ia_History : PySem.W.findIn K (.ref C_History) "__class__" = some (some (.builtin "object.__class__")))
    (in_History : PySem.W.specialIn K (.builtin "object.__class__") "__get__" = some (some (.builtin "getset_descriptor.__get__")))
    (it_History : PySem.W.takesIn K (.builtin "object.__class__") = some true)
    (im_History : PySem.W.mroIn K C_History (.type "object") = some true)
    (kt_History_NoneType : PySem.W.kitOne K (.type "NoneType") (.ref C_History) = some false)
    (kt_History_int : PySem.W.kitOne K (.type "int") (.ref C_History) = some false)
    (kt_History_bool : PySem.W.kitOne K (.type "bool") (.ref C_History) = some false)
    (kt_History_str : PySem.W.kitOne K (.type "str") (.ref C_History) = some false)
    (kt_History_tuple : PySem.W.kitOne K (.type "tuple") (.ref C_History) = some false)
    (kt_History_list : PySem.W.kitOne K (.type "list") (.ref C_History) = some false)
    (kt_History_dict : PySem.W.kitOne K (.type "dict") (.ref C_History) = some false)
    (n_History_past : PySem.W.findIn K (.ref C_History) "past" = some none)
    (n_History_future : PySem.W.findIn K (.ref C_History) "future" = some none)
    (n_History___bool__ : PySem.W.findIn K (.ref C_History) "__bool__" = some none)
    (ai_History_init : PySem.W.findIn K (.ref C_History) "__init__" = some (some (.ref f_History_init)))
    (l_History_init : K.lookup f_History_init = some ⟨oc_History_init, od_History_init, .func (PySem.W.fnOf "__init__" "History.__init__" (defArgs sHInit) (defBody sHInit) (defScope sHInit) (.ref T_History_init) kV_History_init dc_History_init pm_History_init an_History_init cd_History_init ct_History_init), sl_History_init⟩)
    (c_History_init : PySem.W.codeIn K cd_History_init "History.__init__" = true)
    (k_History_init : PySem.W.keepIn K (.ref f_History_init) = true)
    (lT_History_init : K.lookup T_History_init = some oT_History_init)
    (oT_d_History_init : oT_History_init.data = .seq #[.ref e0_History_init, .ref e1_History_init] nT_History_init)
    (le0_History_init : K.lookup e0_History_init = some oe0_History_init)
    (ce0_History_init : oe0_History_init.cls = .type "tuple")
    (de0_History_init : oe0_History_init.data = .seq #[] ne0_History_init)
    (le1_History_init : K.lookup e1_History_init = some oe1_History_init)
    (ce1_History_init : oe1_History_init.cls = .type "tuple")
    (de1_History_init : oe1_History_init.data = .seq #[] ne1_History_init)
    (ii_History_init : PySem.W.isFn K (.ref f_History_init) = true)
    (qa_History_line : PySem.W.findIn K (.ref C_History) "line" = some (some (.ref q_History_line)))
    (qr_History_line : PySem.W.recIn K q_History_line "property" = some (.ref f_History_line :: rest_History_line))
    (l_History_line : K.lookup f_History_line = some ⟨oc_History_line, od_History_line, .func (PySem.W.fnOf "line" "History.line" (defArgs sHLine) (defBody sHLine) (defScope sHLine) .none kV_History_line dc_History_line pm_History_line an_History_line cd_History_line ct_History_line), sl_History_line⟩)
    (c_History_line : PySem.W.codeIn K cd_History_line "History.line" = true)
    (k_History_line : PySem.W.keepIn K (.ref f_History_line) = true)
    (qg_History_line : PySem.W.specialIn K (.ref q_History_line) "__get__" = some (some (.builtin "property.__get__")))
    (qt_History_line : PySem.W.takesIn K (.ref q_History_line) = some true)
    (me_History_do : PySem.W.findIn K (.ref C_History) "do" = some (some (.ref f_History_do)))
    (l_History_do : K.lookup f_History_do = some ⟨oc_History_do, od_History_do, .func (PySem.W.fnOf "do" "History.do" (defArgs sHDo) (defBody sHDo) (defScope sHDo) .none kV_History_do dc_History_do pm_History_do an_History_do cd_History_do ct_History_do), sl_History_do⟩)
    (c_History_do : PySem.W.codeIn K cd_History_do "History.do" = true)
    (k_History_do : PySem.W.keepIn K (.ref f_History_do) = true)
    (mi_History_do : PySem.W.isFn K (.ref f_History_do) = true)
    (me_History_undo : PySem.W.findIn K (.ref C_History) "undo" = some (some (.ref f_History_undo)))
    (l_History_undo : K.lookup f_History_undo = some ⟨oc_History_undo, od_History_undo, .func (PySem.W.fnOf "undo" "History.undo" (defArgs sHUndo) (defBody sHUndo) (defScope sHUndo) (.ref T_History_undo) kV_History_undo dc_History_undo pm_History_undo an_History_undo cd_History_undo ct_History_undo), sl_History_undo⟩)
    (c_History_undo : PySem.W.codeIn K cd_History_undo "History.undo" = true)
    (k_History_undo : PySem.W.keepIn K (.ref f_History_undo) = true)
    (lT_History_undo : K.lookup T_History_undo = some oT_History_undo)
    (oT_d_History_undo : oT_History_undo.data = .seq #[.int 1 w0_History_undo] nT_History_undo)
    (mi_History_undo : PySem.W.isFn K (.ref f_History_undo) = true)
    (me_History_redo : PySem.W.findIn K (.ref C_History) "redo" = some (some (.ref f_History_redo)))
    (l_History_redo : K.lookup f_History_redo = some ⟨oc_History_redo, od_History_redo, .func (PySem.W.fnOf "redo" "History.redo" (defArgs sHRedo) (defBody sHRedo) (defScope sHRedo) (.ref T_History_redo) kV_History_redo dc_History_redo pm_History_redo an_History_redo cd_History_redo ct_History_redo), sl_History_redo⟩)
    (c_History_redo : PySem.W.codeIn K cd_History_redo "History.redo" = true)
    (k_History_redo : PySem.W.keepIn K (.ref f_History_redo) = true)
    (lT_History_redo : K.lookup T_History_redo = some oT_History_redo)
    (oT_d_History_redo : oT_History_redo.data = .seq #[.int 1 w0_History_redo] nT_History_redo)
    (mi_History_redo : PySem.W.isFn K (.ref f_History_redo) = true)
    (me_History_eq : PySem.W.findIn K (.ref C_History) "__eq__" = some (some (.ref f_History_eq)))
    (l_History_eq : K.lookup f_History_eq = some ⟨oc_History_eq, od_History_eq, .func (PySem.W.fnOf "__eq__" "History.__eq__" (defArgs sHEq) (defBody sHEq) (defScope sHEq) .none kV_History_eq dc_History_eq pm_History_eq an_History_eq cd_History_eq ct_History_eq), sl_History_eq⟩)
    (c_History_eq : PySem.W.codeIn K cd_History_eq "History.__eq__" = true)
    (k_History_eq : PySem.W.keepIn K (.ref f_History_eq) = true)
    (mi_History_eq : PySem.W.isFn K (.ref f_History_eq) = true)
    (mn_History_eq : PySem.W.findIn K (.ref C_History) "__ne__" = some (some (.builtin "object.__ne__")))
    (sa_History_of : PySem.W.findCls K (.ref C_History) (.type "type") "of" = some (.get (.builtin "classmethod.__get__") (.ref q_History_of) .none (.ref C_History)))
    (sr_History_of : PySem.W.recIn K q_History_of "classmethod" = some (.ref f_History_of :: rest_History_of))
    (fn_History_of : PySem.W.fnIn K f_History_of = true)
    (rd_History : PySem.W.readsIn K C_History (.type "type") = true)
    (ga_History : PySem.W.specialIn K (.ref C_History) "__getattribute__" = some (some (.builtin "type.__getattribute__")))
    (l_History_of : K.lookup f_History_of = some ⟨oc_History_of, od_History_of, .func (PySem.W.fnOf "of" "History.of" (defArgs sHOf) (defBody sHOf) (defScope sHOf) .none kV_History_of dc_History_of pm_History_of an_History_of cd_History_of ct_History_of), sl_History_of⟩)
    (c_History_of : PySem.W.codeIn K cd_History_of "History.of" = true)
    (k_History_of : PySem.W.keepIn K (.ref f_History_of) = true)
    (me_History_len : PySem.W.findIn K (.ref C_History) "__len__" = some (some (.ref f_History_len)))
    (l_History_len : K.lookup f_History_len = some ⟨oc_History_len, od_History_len, .func (PySem.W.fnOf "__len__" "History.__len__" (defArgs sHLen) (defBody sHLen) (defScope sHLen) .none kV_History_len dc_History_len pm_History_len an_History_len cd_History_len ct_History_len), sl_History_len⟩)
    (c_History_len : PySem.W.codeIn K cd_History_len "History.__len__" = true)
    (k_History_len : PySem.W.keepIn K (.ref f_History_len) = true)
    (mi_History_len : PySem.W.isFn K (.ref f_History_len) = true) :
    ∃ fd cs sp, LawT l.prog w K CX0 14 63 "_law_script" mg fa h fd cs sp := by
  have e := hfa.symm.trans (PySem.W.mg_of X G a_Law)
  have e2 : f_Law = fa := by
    cases e
    rfl
  subst e2
  have F_IsName := fun_mk (st := sIsName) l_IsName c_IsName k_IsName
  have b_IsName := F_IsName.binds (ps := pIsName) fun _ _ _ _ _ _ us hl => match us, hl with | [_], _ => rfl
  have F_IsAm := fun_mk (st := sIsAm) l_IsAm c_IsAm k_IsAm
  have b_IsAm := F_IsAm.binds (ps := pIsAm) fun _ _ _ _ _ _ us hl => match us, hl with | [_], _ => rfl
  have F_ChName := fun_mk (st := sChName) l_ChName c_ChName k_ChName
  have b_ChName := F_ChName.binds (ps := pChName) fun _ _ _ _ _ _ us hl => match us, hl with | [_], _ => rfl
  have F_ChNames := fun_mk (st := sChNames) l_ChNames c_ChNames k_ChNames
  have b_ChNames := F_ChNames.binds (ps := pChNames) fun _ _ _ _ _ _ us hl => match us, hl with | [_], _ => rfl
  have F_ChAm := fun_mk (st := sChAm) l_ChAm c_ChAm k_ChAm
  have b_ChAm := F_ChAm.binds (ps := pChAm) fun _ _ _ _ _ _ us hl => match us, hl with | [_], _ => rfl
  have F_Moved := fun_mk (st := sMoved) l_Moved c_Moved k_Moved
  have b_Moved := F_Moved.binds (ps := pMoved) fun _ _ _ _ _ _ us hl => match us, hl with | [_, _], _ => rfl
  have F_HWith := fun_mk (st := sHWith) l_HWith c_HWith k_HWith
  have b_HWith := F_HWith.binds (ps := pHWith) fun _ _ _ _ _ _ us hl => match us, hl with | [_, _], _ => rfl
  have F_Cell := fun_mk (st := sCell) l_Cell c_Cell k_Cell
  have b_Cell := F_Cell.binds (ps := pCell) fun _ _ _ _ _ _ us hl => match us, hl with | [_, _], _ => rfl
  have F_Pool := fun_mk (st := sPool) l_Pool c_Pool k_Pool
  have b_Pool := F_Pool.binds (ps := pPool) fun _ _ _ _ _ _ us hl => match us, hl with | [_], _ => rfl
  have F_Draw := fun_mk (st := sDraw) l_Draw c_Draw k_Draw
  have b_Draw := F_Draw.binds (ps := pDraw) fun _ _ _ _ _ _ us hl => match us, hl with | [_, _], _ => rfl
  have F_Calls := fun_mk (st := sCalls) l_Calls c_Calls k_Calls
  have b_Calls := F_Calls.binds (ps := pCalls) fun _ _ _ _ _ _ us hl => match us, hl with | [_, _], _ => rfl
  have F_Error := fun_mk (st := sError) l_Error c_Error k_Error
  have b_Error := F_Error.binds (ps := pError) fun _ _ _ _ _ _ us hl => match us, hl with | [_], _ => rfl
  have F_Caught := fun_mk (st := sCaught) l_Caught c_Caught k_Caught
  have b_Caught := F_Caught.binds (ps := pCaught) fun _ _ _ _ _ _ us hl => match us, hl with | [_], _ => rfl
  have F_Bad := fun_mk (st := sBad) l_Bad c_Bad k_Bad
  have b_Bad := F_Bad.binds (ps := pBad) fun _ _ _ _ _ _ us hl => match us, hl with | [_, _], _ => rfl
  have F_LMade := fun_mk (st := sLMade) l_LMade c_LMade k_LMade
  have b_LMade := F_LMade.binds (ps := pLMade) fun _ _ _ _ _ _ us hl => match us, hl with | [_, _], _ => rfl
  have F_Shown := fun_mk (st := sShown) l_Shown c_Shown k_Shown
  have b_Shown := F_Shown.binds (ps := pShown) fun _ _ _ _ _ _ us hl => match us, hl with | [_, _, _], _ => rfl
  have F_Right := fun_mk (st := sRight) l_Right c_Right k_Right
  have b_Right := F_Right.binds (ps := pRight) fun _ _ _ _ _ _ us hl => match us, hl with | [_], _ => rfl
  have F_OfRight := fun_mk (st := sOfRight) l_OfRight c_OfRight k_OfRight
  have b_OfRight := F_OfRight.binds (ps := pOfRight) fun _ _ _ _ _ _ us hl => match us, hl with | [], _ => rfl
  have F_Law := fun_mk (st := sLaw) l_Law c_Law k_Law
  have b_Law := F_Law.binds (ps := pLaw) fun _ _ _ _ _ _ us hl => match us, hl with | [_], _ => rfl
  have F_InvalidName_init : FunD K "__init__" "InvalidName.__init__" (defArgs sEInvalidName) (defBody sEInvalidName) (defScope sEInvalidName) [] [] f_InvalidName_init (PySem.W.fnOf "__init__" "InvalidName.__init__" (defArgs sEInvalidName) (defBody sEInvalidName) (defScope sEInvalidName) .none kV_InvalidName_init dc_InvalidName_init pm_InvalidName_init an_InvalidName_init cd_InvalidName_init ct_InvalidName_init) := ⟨⟨_, _, _, _, _, _, _, _, _, _, rfl, l_InvalidName_init, c_InvalidName_init, .inl ⟨rfl, rfl⟩, .inl rfl⟩, k_InvalidName_init⟩
  have b_InvalidName_init : Binds K (PySem.W.fnOf "__init__" "InvalidName.__init__" (defArgs sEInvalidName) (defBody sEInvalidName) (defScope sEInvalidName) .none kV_InvalidName_init dc_InvalidName_init pm_InvalidName_init an_InvalidName_init cd_InvalidName_init ct_InvalidName_init) pEInvalidName [] := F_InvalidName_init.bindsN fun _ _ _ _ _ _ us hl => match us, hl with | [_, _], _ => rfl
  have kb_InvalidName_init : KBinds K (PySem.W.fnOf "__init__" "InvalidName.__init__" (defArgs sEInvalidName) (defBody sEInvalidName) (defScope sEInvalidName) .none kV_InvalidName_init dc_InvalidName_init pm_InvalidName_init an_InvalidName_init cd_InvalidName_init ct_InvalidName_init) pEInvalidName ["name"] (gK 1 1) (gK 1 1) := kb0 F_InvalidName_init 1 (by simp) fun _ _ _ _ _ _ us ws hu hw => match us, ws, hu, hw with | [_], [_], _, _ => rfl
  have F_InvalidNames_init : FunD K "__init__" "InvalidNames.__init__" (defArgs sEInvalidNames) (defBody sEInvalidNames) (defScope sEInvalidNames) [] [] f_InvalidNames_init (PySem.W.fnOf "__init__" "InvalidNames.__init__" (defArgs sEInvalidNames) (defBody sEInvalidNames) (defScope sEInvalidNames) .none kV_InvalidNames_init dc_InvalidNames_init pm_InvalidNames_init an_InvalidNames_init cd_InvalidNames_init ct_InvalidNames_init) := ⟨⟨_, _, _, _, _, _, _, _, _, _, rfl, l_InvalidNames_init, c_InvalidNames_init, .inl ⟨rfl, rfl⟩, .inl rfl⟩, k_InvalidNames_init⟩
  have b_InvalidNames_init : Binds K (PySem.W.fnOf "__init__" "InvalidNames.__init__" (defArgs sEInvalidNames) (defBody sEInvalidNames) (defScope sEInvalidNames) .none kV_InvalidNames_init dc_InvalidNames_init pm_InvalidNames_init an_InvalidNames_init cd_InvalidNames_init ct_InvalidNames_init) pEInvalidNames [] := F_InvalidNames_init.bindsN fun _ _ _ _ _ _ us hl => match us, hl with | [_, _], _ => rfl
  have kb_InvalidNames_init : KBinds K (PySem.W.fnOf "__init__" "InvalidNames.__init__" (defArgs sEInvalidNames) (defBody sEInvalidNames) (defScope sEInvalidNames) .none kV_InvalidNames_init dc_InvalidNames_init pm_InvalidNames_init an_InvalidNames_init cd_InvalidNames_init ct_InvalidNames_init) pEInvalidNames ["index"] (gK 1 1) (gK 1 1) := kb0 F_InvalidNames_init 1 (by simp) fun _ _ _ _ _ _ us ws hu hw => match us, ws, hu, hw with | [_], [_], _, _ => rfl
  have F_InvalidAmount_init : FunD K "__init__" "InvalidAmount.__init__" (defArgs sEInvalidAmount) (defBody sEInvalidAmount) (defScope sEInvalidAmount) [] [] f_InvalidAmount_init (PySem.W.fnOf "__init__" "InvalidAmount.__init__" (defArgs sEInvalidAmount) (defBody sEInvalidAmount) (defScope sEInvalidAmount) .none kV_InvalidAmount_init dc_InvalidAmount_init pm_InvalidAmount_init an_InvalidAmount_init cd_InvalidAmount_init ct_InvalidAmount_init) := ⟨⟨_, _, _, _, _, _, _, _, _, _, rfl, l_InvalidAmount_init, c_InvalidAmount_init, .inl ⟨rfl, rfl⟩, .inl rfl⟩, k_InvalidAmount_init⟩
  have b_InvalidAmount_init : Binds K (PySem.W.fnOf "__init__" "InvalidAmount.__init__" (defArgs sEInvalidAmount) (defBody sEInvalidAmount) (defScope sEInvalidAmount) .none kV_InvalidAmount_init dc_InvalidAmount_init pm_InvalidAmount_init an_InvalidAmount_init cd_InvalidAmount_init ct_InvalidAmount_init) pEInvalidAmount [] := F_InvalidAmount_init.bindsN fun _ _ _ _ _ _ us hl => match us, hl with | [_, _], _ => rfl
  have kb_InvalidAmount_init : KBinds K (PySem.W.fnOf "__init__" "InvalidAmount.__init__" (defArgs sEInvalidAmount) (defBody sEInvalidAmount) (defScope sEInvalidAmount) .none kV_InvalidAmount_init dc_InvalidAmount_init pm_InvalidAmount_init an_InvalidAmount_init cd_InvalidAmount_init ct_InvalidAmount_init) pEInvalidAmount ["amount"] (gK 1 1) (gK 1 1) := kb0 F_InvalidAmount_init 1 (by simp) fun _ _ _ _ _ _ us ws hu hw => match us, ws, hu, hw with | [_], [_], _, _ => rfl
  have F_InvalidProgram_init : FunD K "__init__" "InvalidProgram.__init__" (defArgs sEInvalidProgram) (defBody sEInvalidProgram) (defScope sEInvalidProgram) [] [] f_InvalidProgram_init (PySem.W.fnOf "__init__" "InvalidProgram.__init__" (defArgs sEInvalidProgram) (defBody sEInvalidProgram) (defScope sEInvalidProgram) .none kV_InvalidProgram_init dc_InvalidProgram_init pm_InvalidProgram_init an_InvalidProgram_init cd_InvalidProgram_init ct_InvalidProgram_init) := ⟨⟨_, _, _, _, _, _, _, _, _, _, rfl, l_InvalidProgram_init, c_InvalidProgram_init, .inl ⟨rfl, rfl⟩, .inl rfl⟩, k_InvalidProgram_init⟩
  have b_InvalidProgram_init : Binds K (PySem.W.fnOf "__init__" "InvalidProgram.__init__" (defArgs sEInvalidProgram) (defBody sEInvalidProgram) (defScope sEInvalidProgram) .none kV_InvalidProgram_init dc_InvalidProgram_init pm_InvalidProgram_init an_InvalidProgram_init cd_InvalidProgram_init ct_InvalidProgram_init) pEInvalidProgram [] := F_InvalidProgram_init.bindsN fun _ _ _ _ _ _ us hl => match us, hl with | [_, _], _ => rfl
  have kb_InvalidProgram_init : KBinds K (PySem.W.fnOf "__init__" "InvalidProgram.__init__" (defArgs sEInvalidProgram) (defBody sEInvalidProgram) (defScope sEInvalidProgram) .none kV_InvalidProgram_init dc_InvalidProgram_init pm_InvalidProgram_init an_InvalidProgram_init cd_InvalidProgram_init ct_InvalidProgram_init) pEInvalidProgram ["index"] (gK 1 1) (gK 1 1) := kb0 F_InvalidProgram_init 1 (by simp) fun _ _ _ _ _ _ us ws hu hw => match us, ws, hu, hw with | [_], [_], _, _ => rfl
  have F_InvalidText_init : FunD K "__init__" "InvalidText.__init__" (defArgs sEInvalidText) (defBody sEInvalidText) (defScope sEInvalidText) [] [] f_InvalidText_init (PySem.W.fnOf "__init__" "InvalidText.__init__" (defArgs sEInvalidText) (defBody sEInvalidText) (defScope sEInvalidText) .none kV_InvalidText_init dc_InvalidText_init pm_InvalidText_init an_InvalidText_init cd_InvalidText_init ct_InvalidText_init) := ⟨⟨_, _, _, _, _, _, _, _, _, _, rfl, l_InvalidText_init, c_InvalidText_init, .inl ⟨rfl, rfl⟩, .inl rfl⟩, k_InvalidText_init⟩
  have b_InvalidText_init : Binds K (PySem.W.fnOf "__init__" "InvalidText.__init__" (defArgs sEInvalidText) (defBody sEInvalidText) (defScope sEInvalidText) .none kV_InvalidText_init dc_InvalidText_init pm_InvalidText_init an_InvalidText_init cd_InvalidText_init ct_InvalidText_init) pEInvalidText [] := F_InvalidText_init.bindsN fun _ _ _ _ _ _ us hl => match us, hl with | [_, _], _ => rfl
  have kb_InvalidText_init : KBinds K (PySem.W.fnOf "__init__" "InvalidText.__init__" (defArgs sEInvalidText) (defBody sEInvalidText) (defScope sEInvalidText) .none kV_InvalidText_init dc_InvalidText_init pm_InvalidText_init an_InvalidText_init cd_InvalidText_init ct_InvalidText_init) pEInvalidText ["text"] (gK 1 1) (gK 1 1) := kb0 F_InvalidText_init 1 (by simp) fun _ _ _ _ _ _ us ws hu hw => match us, ws, hu, hw with | [_], [_], _, _ => rfl
  have F_InvalidLength_init : FunD K "__init__" "InvalidLength.__init__" (defArgs sEInvalidLength) (defBody sEInvalidLength) (defScope sEInvalidLength) [] [] f_InvalidLength_init (PySem.W.fnOf "__init__" "InvalidLength.__init__" (defArgs sEInvalidLength) (defBody sEInvalidLength) (defScope sEInvalidLength) .none kV_InvalidLength_init dc_InvalidLength_init pm_InvalidLength_init an_InvalidLength_init cd_InvalidLength_init ct_InvalidLength_init) := ⟨⟨_, _, _, _, _, _, _, _, _, _, rfl, l_InvalidLength_init, c_InvalidLength_init, .inl ⟨rfl, rfl⟩, .inl rfl⟩, k_InvalidLength_init⟩
  have b_InvalidLength_init : Binds K (PySem.W.fnOf "__init__" "InvalidLength.__init__" (defArgs sEInvalidLength) (defBody sEInvalidLength) (defScope sEInvalidLength) .none kV_InvalidLength_init dc_InvalidLength_init pm_InvalidLength_init an_InvalidLength_init cd_InvalidLength_init ct_InvalidLength_init) pEInvalidLength [] := F_InvalidLength_init.bindsN fun _ _ _ _ _ _ us hl => match us, hl with | [_, _], _ => rfl
  have kb_InvalidLength_init : KBinds K (PySem.W.fnOf "__init__" "InvalidLength.__init__" (defArgs sEInvalidLength) (defBody sEInvalidLength) (defScope sEInvalidLength) .none kV_InvalidLength_init dc_InvalidLength_init pm_InvalidLength_init an_InvalidLength_init cd_InvalidLength_init ct_InvalidLength_init) pEInvalidLength ["length"] (gK 1 1) (gK 1 1) := kb0 F_InvalidLength_init 1 (by simp) fun _ _ _ _ _ _ us ws hu hw => match us, ws, hu, hw with | [_], [_], _, _ => rfl
  have F_InvalidCount_init : FunD K "__init__" "InvalidCount.__init__" (defArgs sEInvalidCount) (defBody sEInvalidCount) (defScope sEInvalidCount) [] [] f_InvalidCount_init (PySem.W.fnOf "__init__" "InvalidCount.__init__" (defArgs sEInvalidCount) (defBody sEInvalidCount) (defScope sEInvalidCount) .none kV_InvalidCount_init dc_InvalidCount_init pm_InvalidCount_init an_InvalidCount_init cd_InvalidCount_init ct_InvalidCount_init) := ⟨⟨_, _, _, _, _, _, _, _, _, _, rfl, l_InvalidCount_init, c_InvalidCount_init, .inl ⟨rfl, rfl⟩, .inl rfl⟩, k_InvalidCount_init⟩
  have b_InvalidCount_init : Binds K (PySem.W.fnOf "__init__" "InvalidCount.__init__" (defArgs sEInvalidCount) (defBody sEInvalidCount) (defScope sEInvalidCount) .none kV_InvalidCount_init dc_InvalidCount_init pm_InvalidCount_init an_InvalidCount_init cd_InvalidCount_init ct_InvalidCount_init) pEInvalidCount [] := F_InvalidCount_init.bindsN fun _ _ _ _ _ _ us hl => match us, hl with | [_, _], _ => rfl
  have kb_InvalidCount_init : KBinds K (PySem.W.fnOf "__init__" "InvalidCount.__init__" (defArgs sEInvalidCount) (defBody sEInvalidCount) (defScope sEInvalidCount) .none kV_InvalidCount_init dc_InvalidCount_init pm_InvalidCount_init an_InvalidCount_init cd_InvalidCount_init ct_InvalidCount_init) pEInvalidCount ["count"] (gK 1 1) (gK 1 1) := kb0 F_InvalidCount_init 1 (by simp) fun _ _ _ _ _ _ us ws hu hw => match us, ws, hu, hw with | [_], [_], _, _ => rfl
  have F_InvalidChanges_init : FunD K "__init__" "InvalidChanges.__init__" (defArgs sEInvalidChanges) (defBody sEInvalidChanges) (defScope sEInvalidChanges) [] [] f_InvalidChanges_init (PySem.W.fnOf "__init__" "InvalidChanges.__init__" (defArgs sEInvalidChanges) (defBody sEInvalidChanges) (defScope sEInvalidChanges) .none kV_InvalidChanges_init dc_InvalidChanges_init pm_InvalidChanges_init an_InvalidChanges_init cd_InvalidChanges_init ct_InvalidChanges_init) := ⟨⟨_, _, _, _, _, _, _, _, _, _, rfl, l_InvalidChanges_init, c_InvalidChanges_init, .inl ⟨rfl, rfl⟩, .inl rfl⟩, k_InvalidChanges_init⟩
  have b_InvalidChanges_init : Binds K (PySem.W.fnOf "__init__" "InvalidChanges.__init__" (defArgs sEInvalidChanges) (defBody sEInvalidChanges) (defScope sEInvalidChanges) .none kV_InvalidChanges_init dc_InvalidChanges_init pm_InvalidChanges_init an_InvalidChanges_init cd_InvalidChanges_init ct_InvalidChanges_init) pEInvalidChanges [] := F_InvalidChanges_init.bindsN fun _ _ _ _ _ _ us hl => match us, hl with | [_, _], _ => rfl
  have kb_InvalidChanges_init : KBinds K (PySem.W.fnOf "__init__" "InvalidChanges.__init__" (defArgs sEInvalidChanges) (defBody sEInvalidChanges) (defScope sEInvalidChanges) .none kV_InvalidChanges_init dc_InvalidChanges_init pm_InvalidChanges_init an_InvalidChanges_init cd_InvalidChanges_init ct_InvalidChanges_init) pEInvalidChanges ["index"] (gK 1 1) (gK 1 1) := kb0 F_InvalidChanges_init 1 (by simp) fun _ _ _ _ _ _ us ws hu hw => match us, ws, hu, hw with | [_], [_], _, _ => rfl
  have F_InvalidObservations_init : FunD K "__init__" "InvalidObservations.__init__" (defArgs sEInvalidObservations) (defBody sEInvalidObservations) (defScope sEInvalidObservations) [] [] f_InvalidObservations_init (PySem.W.fnOf "__init__" "InvalidObservations.__init__" (defArgs sEInvalidObservations) (defBody sEInvalidObservations) (defScope sEInvalidObservations) .none kV_InvalidObservations_init dc_InvalidObservations_init pm_InvalidObservations_init an_InvalidObservations_init cd_InvalidObservations_init ct_InvalidObservations_init) := ⟨⟨_, _, _, _, _, _, _, _, _, _, rfl, l_InvalidObservations_init, c_InvalidObservations_init, .inl ⟨rfl, rfl⟩, .inl rfl⟩, k_InvalidObservations_init⟩
  have b_InvalidObservations_init : Binds K (PySem.W.fnOf "__init__" "InvalidObservations.__init__" (defArgs sEInvalidObservations) (defBody sEInvalidObservations) (defScope sEInvalidObservations) .none kV_InvalidObservations_init dc_InvalidObservations_init pm_InvalidObservations_init an_InvalidObservations_init cd_InvalidObservations_init ct_InvalidObservations_init) pEInvalidObservations [] := F_InvalidObservations_init.bindsN fun _ _ _ _ _ _ us hl => match us, hl with | [_, _], _ => rfl
  have kb_InvalidObservations_init : KBinds K (PySem.W.fnOf "__init__" "InvalidObservations.__init__" (defArgs sEInvalidObservations) (defBody sEInvalidObservations) (defScope sEInvalidObservations) .none kV_InvalidObservations_init dc_InvalidObservations_init pm_InvalidObservations_init an_InvalidObservations_init cd_InvalidObservations_init ct_InvalidObservations_init) pEInvalidObservations ["index"] (gK 1 1) (gK 1 1) := kb0 F_InvalidObservations_init 1 (by simp) fun _ _ _ _ _ _ us ws hu hw => match us, ws, hu, hw with | [_], [_], _, _ => rfl
  have F_InvalidLimit_init : FunD K "__init__" "InvalidLimit.__init__" (defArgs sEInvalidLimit) (defBody sEInvalidLimit) (defScope sEInvalidLimit) [] [] f_InvalidLimit_init (PySem.W.fnOf "__init__" "InvalidLimit.__init__" (defArgs sEInvalidLimit) (defBody sEInvalidLimit) (defScope sEInvalidLimit) .none kV_InvalidLimit_init dc_InvalidLimit_init pm_InvalidLimit_init an_InvalidLimit_init cd_InvalidLimit_init ct_InvalidLimit_init) := ⟨⟨_, _, _, _, _, _, _, _, _, _, rfl, l_InvalidLimit_init, c_InvalidLimit_init, .inl ⟨rfl, rfl⟩, .inl rfl⟩, k_InvalidLimit_init⟩
  have b_InvalidLimit_init : Binds K (PySem.W.fnOf "__init__" "InvalidLimit.__init__" (defArgs sEInvalidLimit) (defBody sEInvalidLimit) (defScope sEInvalidLimit) .none kV_InvalidLimit_init dc_InvalidLimit_init pm_InvalidLimit_init an_InvalidLimit_init cd_InvalidLimit_init ct_InvalidLimit_init) pEInvalidLimit [] := F_InvalidLimit_init.bindsN fun _ _ _ _ _ _ us hl => match us, hl with | [_, _], _ => rfl
  have kb_InvalidLimit_init : KBinds K (PySem.W.fnOf "__init__" "InvalidLimit.__init__" (defArgs sEInvalidLimit) (defBody sEInvalidLimit) (defScope sEInvalidLimit) .none kV_InvalidLimit_init dc_InvalidLimit_init pm_InvalidLimit_init an_InvalidLimit_init cd_InvalidLimit_init ct_InvalidLimit_init) pEInvalidLimit ["value"] (gK 1 1) (gK 1 1) := kb0 F_InvalidLimit_init 1 (by simp) fun _ _ _ _ _ _ us ws hu hw => match us, ws, hu, hw with | [_], [_], _, _ => rfl
  have F_InvalidLine_init : FunD K "__init__" "InvalidLine.__init__" (defArgs sEInvalidLine) (defBody sEInvalidLine) (defScope sEInvalidLine) [] [] f_InvalidLine_init (PySem.W.fnOf "__init__" "InvalidLine.__init__" (defArgs sEInvalidLine) (defBody sEInvalidLine) (defScope sEInvalidLine) .none kV_InvalidLine_init dc_InvalidLine_init pm_InvalidLine_init an_InvalidLine_init cd_InvalidLine_init ct_InvalidLine_init) := ⟨⟨_, _, _, _, _, _, _, _, _, _, rfl, l_InvalidLine_init, c_InvalidLine_init, .inl ⟨rfl, rfl⟩, .inl rfl⟩, k_InvalidLine_init⟩
  have b_InvalidLine_init : Binds K (PySem.W.fnOf "__init__" "InvalidLine.__init__" (defArgs sEInvalidLine) (defBody sEInvalidLine) (defScope sEInvalidLine) .none kV_InvalidLine_init dc_InvalidLine_init pm_InvalidLine_init an_InvalidLine_init cd_InvalidLine_init ct_InvalidLine_init) pEInvalidLine [] := F_InvalidLine_init.bindsN fun _ _ _ _ _ _ us hl => match us, hl with | [_, _], _ => rfl
  have kb_InvalidLine_init : KBinds K (PySem.W.fnOf "__init__" "InvalidLine.__init__" (defArgs sEInvalidLine) (defBody sEInvalidLine) (defScope sEInvalidLine) .none kV_InvalidLine_init dc_InvalidLine_init pm_InvalidLine_init an_InvalidLine_init cd_InvalidLine_init ct_InvalidLine_init) pEInvalidLine ["text"] (gK 1 1) (gK 1 1) := kb0 F_InvalidLine_init 1 (by simp) fun _ _ _ _ _ _ us ws hu hw => match us, ws, hu, hw with | [_], [_], _, _ => rfl
  have F_NotAHistory_init : FunD K "__init__" "NotAHistory.__init__" (defArgs sENotAHistory) (defBody sENotAHistory) (defScope sENotAHistory) [] [] f_NotAHistory_init (PySem.W.fnOf "__init__" "NotAHistory.__init__" (defArgs sENotAHistory) (defBody sENotAHistory) (defScope sENotAHistory) .none kV_NotAHistory_init dc_NotAHistory_init pm_NotAHistory_init an_NotAHistory_init cd_NotAHistory_init ct_NotAHistory_init) := ⟨⟨_, _, _, _, _, _, _, _, _, _, rfl, l_NotAHistory_init, c_NotAHistory_init, .inl ⟨rfl, rfl⟩, .inl rfl⟩, k_NotAHistory_init⟩
  have b_NotAHistory_init : Binds K (PySem.W.fnOf "__init__" "NotAHistory.__init__" (defArgs sENotAHistory) (defBody sENotAHistory) (defScope sENotAHistory) .none kV_NotAHistory_init dc_NotAHistory_init pm_NotAHistory_init an_NotAHistory_init cd_NotAHistory_init ct_NotAHistory_init) pENotAHistory [] := F_NotAHistory_init.bindsN fun _ _ _ _ _ _ us hl => match us, hl with | [_, _], _ => rfl
  have kb_NotAHistory_init : KBinds K (PySem.W.fnOf "__init__" "NotAHistory.__init__" (defArgs sENotAHistory) (defBody sENotAHistory) (defScope sENotAHistory) .none kV_NotAHistory_init dc_NotAHistory_init pm_NotAHistory_init an_NotAHistory_init cd_NotAHistory_init ct_NotAHistory_init) pENotAHistory ["value"] (gK 1 1) (gK 1 1) := kb0 F_NotAHistory_init 1 (by simp) fun _ _ _ _ _ _ us ws hu hw => match us, ws, hu, hw with | [_], [_], _, _ => rfl
  have F_NotAProgram_init : FunD K "__init__" "NotAProgram.__init__" (defArgs sENotAProgram) (defBody sENotAProgram) (defScope sENotAProgram) [] [] f_NotAProgram_init (PySem.W.fnOf "__init__" "NotAProgram.__init__" (defArgs sENotAProgram) (defBody sENotAProgram) (defScope sENotAProgram) .none kV_NotAProgram_init dc_NotAProgram_init pm_NotAProgram_init an_NotAProgram_init cd_NotAProgram_init ct_NotAProgram_init) := ⟨⟨_, _, _, _, _, _, _, _, _, _, rfl, l_NotAProgram_init, c_NotAProgram_init, .inl ⟨rfl, rfl⟩, .inl rfl⟩, k_NotAProgram_init⟩
  have b_NotAProgram_init : Binds K (PySem.W.fnOf "__init__" "NotAProgram.__init__" (defArgs sENotAProgram) (defBody sENotAProgram) (defScope sENotAProgram) .none kV_NotAProgram_init dc_NotAProgram_init pm_NotAProgram_init an_NotAProgram_init cd_NotAProgram_init ct_NotAProgram_init) pENotAProgram [] := F_NotAProgram_init.bindsN fun _ _ _ _ _ _ us hl => match us, hl with | [_, _], _ => rfl
  have kb_NotAProgram_init : KBinds K (PySem.W.fnOf "__init__" "NotAProgram.__init__" (defArgs sENotAProgram) (defBody sENotAProgram) (defScope sENotAProgram) .none kV_NotAProgram_init dc_NotAProgram_init pm_NotAProgram_init an_NotAProgram_init cd_NotAProgram_init ct_NotAProgram_init) pENotAProgram ["value"] (gK 1 1) (gK 1 1) := kb0 F_NotAProgram_init 1 (by simp) fun _ _ _ _ _ _ us ws hu hw => match us, ws, hu, hw with | [_], [_], _, _ => rfl
  have F_NotAnEffect_init : FunD K "__init__" "NotAnEffect.__init__" (defArgs sENotAnEffect) (defBody sENotAnEffect) (defScope sENotAnEffect) [] [] f_NotAnEffect_init (PySem.W.fnOf "__init__" "NotAnEffect.__init__" (defArgs sENotAnEffect) (defBody sENotAnEffect) (defScope sENotAnEffect) .none kV_NotAnEffect_init dc_NotAnEffect_init pm_NotAnEffect_init an_NotAnEffect_init cd_NotAnEffect_init ct_NotAnEffect_init) := ⟨⟨_, _, _, _, _, _, _, _, _, _, rfl, l_NotAnEffect_init, c_NotAnEffect_init, .inl ⟨rfl, rfl⟩, .inl rfl⟩, k_NotAnEffect_init⟩
  have b_NotAnEffect_init : Binds K (PySem.W.fnOf "__init__" "NotAnEffect.__init__" (defArgs sENotAnEffect) (defBody sENotAnEffect) (defScope sENotAnEffect) .none kV_NotAnEffect_init dc_NotAnEffect_init pm_NotAnEffect_init an_NotAnEffect_init cd_NotAnEffect_init ct_NotAnEffect_init) pENotAnEffect [] := F_NotAnEffect_init.bindsN fun _ _ _ _ _ _ us hl => match us, hl with | [_, _], _ => rfl
  have kb_NotAnEffect_init : KBinds K (PySem.W.fnOf "__init__" "NotAnEffect.__init__" (defArgs sENotAnEffect) (defBody sENotAnEffect) (defScope sENotAnEffect) .none kV_NotAnEffect_init dc_NotAnEffect_init pm_NotAnEffect_init an_NotAnEffect_init cd_NotAnEffect_init ct_NotAnEffect_init) pENotAnEffect ["value"] (gK 1 1) (gK 1 1) := kb0 F_NotAnEffect_init 1 (by simp) fun _ _ _ _ _ _ us ws hu hw => match us, ws, hu, hw with | [_], [_], _, _ => rfl
  have F_TooManyDiscarded_init : FunD K "__init__" "TooManyDiscarded.__init__" (defArgs sETooManyDiscarded) (defBody sETooManyDiscarded) (defScope sETooManyDiscarded) [] [] f_TooManyDiscarded_init (PySem.W.fnOf "__init__" "TooManyDiscarded.__init__" (defArgs sETooManyDiscarded) (defBody sETooManyDiscarded) (defScope sETooManyDiscarded) .none kV_TooManyDiscarded_init dc_TooManyDiscarded_init pm_TooManyDiscarded_init an_TooManyDiscarded_init cd_TooManyDiscarded_init ct_TooManyDiscarded_init) := ⟨⟨_, _, _, _, _, _, _, _, _, _, rfl, l_TooManyDiscarded_init, c_TooManyDiscarded_init, .inl ⟨rfl, rfl⟩, .inl rfl⟩, k_TooManyDiscarded_init⟩
  have b_TooManyDiscarded_init : Binds K (PySem.W.fnOf "__init__" "TooManyDiscarded.__init__" (defArgs sETooManyDiscarded) (defBody sETooManyDiscarded) (defScope sETooManyDiscarded) .none kV_TooManyDiscarded_init dc_TooManyDiscarded_init pm_TooManyDiscarded_init an_TooManyDiscarded_init cd_TooManyDiscarded_init ct_TooManyDiscarded_init) pETooManyDiscarded [] := F_TooManyDiscarded_init.bindsN fun _ _ _ _ _ _ us hl => match us, hl with | [_, _], _ => rfl
  have kb_TooManyDiscarded_init : KBinds K (PySem.W.fnOf "__init__" "TooManyDiscarded.__init__" (defArgs sETooManyDiscarded) (defBody sETooManyDiscarded) (defScope sETooManyDiscarded) .none kV_TooManyDiscarded_init dc_TooManyDiscarded_init pm_TooManyDiscarded_init an_TooManyDiscarded_init cd_TooManyDiscarded_init ct_TooManyDiscarded_init) pETooManyDiscarded ["count"] (gK 1 1) (gK 1 1) := kb0 F_TooManyDiscarded_init 1 (by simp) fun _ _ _ _ _ _ us ws hu hw => match us, ws, hu, hw with | [_], [_], _, _ => rfl
  have ie_History : PySem.W.kitOne K (.ref C_History) (.ref C_History) = some true := by
    unfold PySem.W.kitOne
    simp
  have cl_History : Cls K C_History := ⟨pg_History, hd_History, po_History, sa_History⟩
  have F_History_init : FunD K "__init__" "History.__init__" (defArgs sHInit) (defBody sHInit) (defScope sHInit) [V.ref e0_History_init, V.ref e1_History_init] [] f_History_init (PySem.W.fnOf "__init__" "History.__init__" (defArgs sHInit) (defBody sHInit) (defScope sHInit) (.ref T_History_init) kV_History_init dc_History_init pm_History_init an_History_init cd_History_init ct_History_init) := ⟨⟨_, _, _, _, _, _, _, _, _, _, rfl, l_History_init, c_History_init, .inr ⟨by simp, T_History_init, oT_History_init, [.ref e0_History_init, .ref e1_History_init], nT_History_init, rfl, lT_History_init, oT_d_History_init, .cons rfl (.cons rfl (.nil))⟩, .inl rfl⟩, k_History_init⟩
  obtain ⟨ds0_History_init, v0_History_init, b0_History_init⟩ := F_History_init.binds1 (ps := pHInit) 1 0 (by simp) rfl fun _ _ _ _ _ _ _ us its hu hi => match us, its, hu, hi with | [_], [_, _], _, _ => ⟨_, rfl, rfl⟩
  obtain ⟨ds1_History_init, v1_History_init, b1_History_init⟩ := F_History_init.binds1 (ps := pHInit) 2 1 (by simp) rfl fun _ _ _ _ _ _ _ us its hu hi => match us, its, hu, hi with | [_, _], [_, _], _, _ => ⟨_, rfl, rfl⟩
  obtain ⟨ds2_History_init, v2_History_init, b2_History_init⟩ := F_History_init.binds1 (ps := pHInit) 3 2 (by simp) rfl fun _ _ _ _ _ _ _ us its hu hi => match us, its, hu, hi with | [_, _, _], [_, _], _, _ => ⟨_, rfl, rfl⟩
  have F_History_line : FunD K "line" "History.line" (defArgs sHLine) (defBody sHLine) (defScope sHLine) [] [] f_History_line (PySem.W.fnOf "line" "History.line" (defArgs sHLine) (defBody sHLine) (defScope sHLine) .none kV_History_line dc_History_line pm_History_line an_History_line cd_History_line ct_History_line) := ⟨⟨_, _, _, _, _, _, _, _, _, _, rfl, l_History_line, c_History_line, .inl ⟨rfl, rfl⟩, .inl rfl⟩, k_History_line⟩
  have b_History_line : Binds K (PySem.W.fnOf "line" "History.line" (defArgs sHLine) (defBody sHLine) (defScope sHLine) .none kV_History_line dc_History_line pm_History_line an_History_line cd_History_line ct_History_line) pHLine [] := F_History_line.bindsN fun _ _ _ _ _ _ us hl => match us, hl with | [_], _ => rfl
  have F_History_do : FunD K "do" "History.do" (defArgs sHDo) (defBody sHDo) (defScope sHDo) [] [] f_History_do (PySem.W.fnOf "do" "History.do" (defArgs sHDo) (defBody sHDo) (defScope sHDo) .none kV_History_do dc_History_do pm_History_do an_History_do cd_History_do ct_History_do) := ⟨⟨_, _, _, _, _, _, _, _, _, _, rfl, l_History_do, c_History_do, .inl ⟨rfl, rfl⟩, .inl rfl⟩, k_History_do⟩
  have b_History_do : Binds K (PySem.W.fnOf "do" "History.do" (defArgs sHDo) (defBody sHDo) (defScope sHDo) .none kV_History_do dc_History_do pm_History_do an_History_do cd_History_do ct_History_do) pHDo [] := F_History_do.bindsN fun _ _ _ _ _ _ us hl => match us, hl with | [_, _], _ => rfl
  have F_History_undo : FunD K "undo" "History.undo" (defArgs sHUndo) (defBody sHUndo) (defScope sHUndo) [V.int 1] [] f_History_undo (PySem.W.fnOf "undo" "History.undo" (defArgs sHUndo) (defBody sHUndo) (defScope sHUndo) (.ref T_History_undo) kV_History_undo dc_History_undo pm_History_undo an_History_undo cd_History_undo ct_History_undo) := ⟨⟨_, _, _, _, _, _, _, _, _, _, rfl, l_History_undo, c_History_undo, .inr ⟨by simp, T_History_undo, oT_History_undo, [.int 1 w0_History_undo], nT_History_undo, rfl, lT_History_undo, oT_d_History_undo, .cons ⟨_, rfl⟩ (.nil)⟩, .inl rfl⟩, k_History_undo⟩
  have b_History_undo : Binds K (PySem.W.fnOf "undo" "History.undo" (defArgs sHUndo) (defBody sHUndo) (defScope sHUndo) (.ref T_History_undo) kV_History_undo dc_History_undo pm_History_undo an_History_undo cd_History_undo ct_History_undo) pHUndo [] := by
    obtain ⟨ds, v, b⟩ := F_History_undo.binds1 (ps := pHUndo) 2 1 (by simp) rfl fun _ _ _ _ _ _ _ us its hu hi => match us, its, hu, hi with | [_, _], [_], _, _ => ⟨_, rfl, rfl⟩
    cases v
    exact b
  obtain ⟨ds0_History_undo, v0_History_undo, b0_History_undo⟩ := F_History_undo.binds1 (ps := pHUndo) 1 0 (by simp) rfl fun _ _ _ _ _ _ _ us its hu hi => match us, its, hu, hi with | [_], [_], _, _ => ⟨_, rfl, rfl⟩
  have F_History_redo : FunD K "redo" "History.redo" (defArgs sHRedo) (defBody sHRedo) (defScope sHRedo) [V.int 1] [] f_History_redo (PySem.W.fnOf "redo" "History.redo" (defArgs sHRedo) (defBody sHRedo) (defScope sHRedo) (.ref T_History_redo) kV_History_redo dc_History_redo pm_History_redo an_History_redo cd_History_redo ct_History_redo) := ⟨⟨_, _, _, _, _, _, _, _, _, _, rfl, l_History_redo, c_History_redo, .inr ⟨by simp, T_History_redo, oT_History_redo, [.int 1 w0_History_redo], nT_History_redo, rfl, lT_History_redo, oT_d_History_redo, .cons ⟨_, rfl⟩ (.nil)⟩, .inl rfl⟩, k_History_redo⟩
  have b_History_redo : Binds K (PySem.W.fnOf "redo" "History.redo" (defArgs sHRedo) (defBody sHRedo) (defScope sHRedo) (.ref T_History_redo) kV_History_redo dc_History_redo pm_History_redo an_History_redo cd_History_redo ct_History_redo) pHRedo [] := by
    obtain ⟨ds, v, b⟩ := F_History_redo.binds1 (ps := pHRedo) 2 1 (by simp) rfl fun _ _ _ _ _ _ _ us its hu hi => match us, its, hu, hi with | [_, _], [_], _, _ => ⟨_, rfl, rfl⟩
    cases v
    exact b
  obtain ⟨ds0_History_redo, v0_History_redo, b0_History_redo⟩ := F_History_redo.binds1 (ps := pHRedo) 1 0 (by simp) rfl fun _ _ _ _ _ _ _ us its hu hi => match us, its, hu, hi with | [_], [_], _, _ => ⟨_, rfl, rfl⟩
  have F_History_eq : FunD K "__eq__" "History.__eq__" (defArgs sHEq) (defBody sHEq) (defScope sHEq) [] [] f_History_eq (PySem.W.fnOf "__eq__" "History.__eq__" (defArgs sHEq) (defBody sHEq) (defScope sHEq) .none kV_History_eq dc_History_eq pm_History_eq an_History_eq cd_History_eq ct_History_eq) := ⟨⟨_, _, _, _, _, _, _, _, _, _, rfl, l_History_eq, c_History_eq, .inl ⟨rfl, rfl⟩, .inl rfl⟩, k_History_eq⟩
  have b_History_eq : Binds K (PySem.W.fnOf "__eq__" "History.__eq__" (defArgs sHEq) (defBody sHEq) (defScope sHEq) .none kV_History_eq dc_History_eq pm_History_eq an_History_eq cd_History_eq ct_History_eq) pHEq [] := F_History_eq.bindsN fun _ _ _ _ _ _ us hl => match us, hl with | [_, _], _ => rfl
  have F_History_of : FunS K "of" "History.of" sHOf ["cls"] "names" f_History_of := ⟨⟨_, _, _, _, _, _, _, _, _, _, l_History_of, c_History_of, StX.bind_star1 (B := fun us => bindArgs (PySem.W.fnOf "of" "History.of" (defArgs sHOf) (defBody sHOf) (defScope sHOf) .none kV_History_of dc_History_of pm_History_of an_History_of cd_History_of ct_History_of) ⟨us, []⟩) (fun a => rfl) (fun a r rs => rfl)⟩, k_History_of⟩
  have F_History_len : FunD K "__len__" "History.__len__" (defArgs sHLen) (defBody sHLen) (defScope sHLen) [] [] f_History_len (PySem.W.fnOf "__len__" "History.__len__" (defArgs sHLen) (defBody sHLen) (defScope sHLen) .none kV_History_len dc_History_len pm_History_len an_History_len cd_History_len ct_History_len) := ⟨⟨_, _, _, _, _, _, _, _, _, _, rfl, l_History_len, c_History_len, .inl ⟨rfl, rfl⟩, .inl rfl⟩, k_History_len⟩
  have b_History_len : Binds K (PySem.W.fnOf "__len__" "History.__len__" (defArgs sHLen) (defBody sHLen) (defScope sHLen) .none kV_History_len dc_History_len pm_History_len an_History_len cd_History_len ct_History_len) pHLen [] := F_History_len.bindsN fun _ _ _ _ _ _ us hl => match us, hl with | [_], _ => rfl
  let T : TX K mg := {
    f_is_name := f_IsName
    fd_is_name := PySem.W.fnOf "is_name" "is_name" (defArgs sIsName) (defBody sIsName) (defScope sIsName) .none kV_IsName dc_IsName pm_IsName an_IsName cd_IsName ct_IsName
    d_is_name := ⟨F_IsName, PySem.W.mg_of X G a_IsName, b_IsName⟩
    f_is_amount := f_IsAm
    fd_is_amount := PySem.W.fnOf "is_amount" "is_amount" (defArgs sIsAm) (defBody sIsAm) (defScope sIsAm) .none kV_IsAm dc_IsAm pm_IsAm an_IsAm cd_IsAm ct_IsAm
    d_is_amount := ⟨F_IsAm, PySem.W.mg_of X G a_IsAm, b_IsAm⟩
    f_check_name := f_ChName
    fd_check_name := PySem.W.fnOf "check_name" "check_name" (defArgs sChName) (defBody sChName) (defScope sChName) .none kV_ChName dc_ChName pm_ChName an_ChName cd_ChName ct_ChName
    d_check_name := ⟨F_ChName, PySem.W.mg_of X G a_ChName, b_ChName⟩
    f_check_names := f_ChNames
    fd_check_names := PySem.W.fnOf "check_names" "check_names" (defArgs sChNames) (defBody sChNames) (defScope sChNames) .none kV_ChNames dc_ChNames pm_ChNames an_ChNames cd_ChNames ct_ChNames
    d_check_names := ⟨F_ChNames, PySem.W.mg_of X G a_ChNames, b_ChNames⟩
    f_check_amount := f_ChAm
    fd_check_amount := PySem.W.fnOf "check_amount" "check_amount" (defArgs sChAm) (defBody sChAm) (defScope sChAm) .none kV_ChAm dc_ChAm pm_ChAm an_ChAm cd_ChAm ct_ChAm
    d_check_amount := ⟨F_ChAm, PySem.W.mg_of X G a_ChAm, b_ChAm⟩
    f_number_moved := f_Moved
    fd_number_moved := PySem.W.fnOf "number_moved" "number_moved" (defArgs sMoved) (defBody sMoved) (defScope sMoved) .none kV_Moved dc_Moved pm_Moved an_Moved cd_Moved ct_Moved
    d_number_moved := ⟨F_Moved, PySem.W.mg_of X G a_Moved, b_Moved⟩
    f_history_with := f_HWith
    fd_history_with := PySem.W.fnOf "history_with" "history_with" (defArgs sHWith) (defBody sHWith) (defScope sHWith) .none kV_HWith dc_HWith pm_HWith an_HWith cd_HWith ct_HWith
    d_history_with := ⟨F_HWith, PySem.W.mg_of X G a_HWith, b_HWith⟩
    f_law_cell := f_Cell
    fd_law_cell := PySem.W.fnOf "_law_cell" "_law_cell" (defArgs sCell) (defBody sCell) (defScope sCell) .none kV_Cell dc_Cell pm_Cell an_Cell cd_Cell ct_Cell
    d_law_cell := ⟨F_Cell, PySem.W.mg_of X G a_Cell, b_Cell⟩
    f_law_pool := f_Pool
    fd_law_pool := PySem.W.fnOf "_law_pool" "_law_pool" (defArgs sPool) (defBody sPool) (defScope sPool) .none kV_Pool dc_Pool pm_Pool an_Pool cd_Pool ct_Pool
    d_law_pool := ⟨F_Pool, PySem.W.mg_of X G a_Pool, b_Pool⟩
    f_law_draw := f_Draw
    fd_law_draw := PySem.W.fnOf "_law_draw" "_law_draw" (defArgs sDraw) (defBody sDraw) (defScope sDraw) .none kV_Draw dc_Draw pm_Draw an_Draw cd_Draw ct_Draw
    d_law_draw := ⟨F_Draw, PySem.W.mg_of X G a_Draw, b_Draw⟩
    f_law_calls := f_Calls
    fd_law_calls := PySem.W.fnOf "_law_calls" "_law_calls" (defArgs sCalls) (defBody sCalls) (defScope sCalls) .none kV_Calls dc_Calls pm_Calls an_Calls cd_Calls ct_Calls
    d_law_calls := ⟨F_Calls, PySem.W.mg_of X G a_Calls, b_Calls⟩
    f_law_error := f_Error
    fd_law_error := PySem.W.fnOf "_law_error" "_law_error" (defArgs sError) (defBody sError) (defScope sError) .none kV_Error dc_Error pm_Error an_Error cd_Error ct_Error
    d_law_error := ⟨F_Error, PySem.W.mg_of X G a_Error, b_Error⟩
    f_law_caught := f_Caught
    fd_law_caught := PySem.W.fnOf "_law_caught" "_law_caught" (defArgs sCaught) (defBody sCaught) (defScope sCaught) .none kV_Caught dc_Caught pm_Caught an_Caught cd_Caught ct_Caught
    d_law_caught := ⟨F_Caught, PySem.W.mg_of X G a_Caught, b_Caught⟩
    f_law_bad := f_Bad
    fd_law_bad := PySem.W.fnOf "_law_bad" "_law_bad" (defArgs sBad) (defBody sBad) (defScope sBad) .none kV_Bad dc_Bad pm_Bad an_Bad cd_Bad ct_Bad
    d_law_bad := ⟨F_Bad, PySem.W.mg_of X G a_Bad, b_Bad⟩
    f_law_made := f_LMade
    fd_law_made := PySem.W.fnOf "_law_made" "_law_made" (defArgs sLMade) (defBody sLMade) (defScope sLMade) .none kV_LMade dc_LMade pm_LMade an_LMade (.ref cc_LMade) ct_LMade
    d_law_made := ⟨F_LMade, PySem.W.mg_of X G a_LMade, b_LMade⟩
    c_law_made := cc_LMade
    P_law_made := P_LMade
    dc_law_made := ⟨⟨_, _, _, _, _, _, _, _, rfl, l_LMade, c_LMade⟩⟩
    f_law_shown_right := f_Shown
    fd_law_shown_right := PySem.W.fnOf "_law_shown_right" "_law_shown_right" (defArgs sShown) (defBody sShown) (defScope sShown) .none kV_Shown dc_Shown pm_Shown an_Shown cd_Shown ct_Shown
    d_law_shown_right := ⟨F_Shown, PySem.W.mg_of X G a_Shown, b_Shown⟩
    f_law_right := f_Right
    fd_law_right := PySem.W.fnOf "_law_right" "_law_right" (defArgs sRight) (defBody sRight) (defScope sRight) .none kV_Right dc_Right pm_Right an_Right cd_Right ct_Right
    d_law_right := ⟨F_Right, PySem.W.mg_of X G a_Right, b_Right⟩
    f_law_of_right := f_OfRight
    fd_law_of_right := PySem.W.fnOf "_law_of_right" "_law_of_right" (defArgs sOfRight) (defBody sOfRight) (defScope sOfRight) .none kV_OfRight dc_OfRight pm_OfRight an_OfRight (.ref cc_OfRight) ct_OfRight
    d_law_of_right := ⟨F_OfRight, PySem.W.mg_of X G a_OfRight, b_OfRight⟩
    c_law_of_right := cc_OfRight
    P_law_of_right := P_OfRight
    dc_law_of_right := ⟨⟨_, _, _, _, _, _, _, _, rfl, l_OfRight, c_OfRight⟩⟩
    f_law := f_Law
    fd_law := PySem.W.fnOf "law" "law" (defArgs sLaw) (defBody sLaw) (defScope sLaw) .none kV_Law dc_Law pm_Law an_Law cd_Law ct_Law
    d_law := ⟨F_Law, PySem.W.mg_of X G a_Law, b_Law⟩
    abs := PySem.W.mg_none_of X G z_abs
    all := PySem.W.mg_none_of X G z_all
    any := PySem.W.mg_none_of X G z_any
    bool := PySem.W.mg_none_of X G z_bool
    divmod := PySem.W.mg_none_of X G z_divmod
    enumerate := PySem.W.mg_none_of X G z_enumerate
    int := PySem.W.mg_none_of X G z_int
    isinstance := PySem.W.mg_none_of X G z_isinstance
    len := PySem.W.mg_none_of X G z_len
    list := PySem.W.mg_none_of X G z_list
    max := PySem.W.mg_none_of X G z_max
    min := PySem.W.mg_none_of X G z_min
    range := PySem.W.mg_none_of X G z_range
    repr := PySem.W.mg_none_of X G z_repr
    str := PySem.W.mg_none_of X G z_str
    tuple := PySem.W.mg_none_of X G z_tuple
    ValueError := PySem.W.mg_none_of X G z_ValueError
    LookupError := PySem.W.mg_none_of X G z_LookupError
    ArithmeticError := PySem.W.mg_none_of X G z_ArithmeticError
    mLONGEST_NAME := ⟨_, PySem.W.mg_of X G a_LONGEST_NAME⟩
    C_UndoError := C_UndoError
    m_UndoError := PySem.W.mg_of X G aC_UndoError
    cx_UndoError := ⟨bi_UndoError, bt_UndoError⟩
    bx_UndoError := bx_UndoError
    C_StateError := C_StateError
    m_StateError := PySem.W.mg_of X G aC_StateError
    cx_StateError := ⟨bi_StateError, bt_StateError⟩
    bx_StateError := bx_StateError
    C_LimitError := C_LimitError
    m_LimitError := PySem.W.mg_of X G aC_LimitError
    cx_LimitError := ⟨bi_LimitError, bt_LimitError⟩
    bx_LimitError := bx_LimitError
    C_InvalidName := C_InvalidName
    m_InvalidName := PySem.W.mg_of X G aC_InvalidName
    ec_InvalidName := ⟨(by
      obtain ⟨a0, a1, a2, a3, a4, a5, a6, a7, a8, a9, a10, a11, a12, a13, e⟩ := xcl_InvalidName
      exact ⟨a0, a1, a2, a3, a4, a5, a6, a7, a8, a9, a10, a11, a12, a13, lx_InvalidName.trans (congrArg some e)⟩), esa_InvalidName, ega_InvalidName, egg_InvalidName, eca_InvalidName, ety_InvalidName, ekc_InvalidName⟩
    f_InvalidName_init := f_InvalidName_init
    fd_InvalidName_init := PySem.W.fnOf "__init__" "InvalidName.__init__" (defArgs sEInvalidName) (defBody sEInvalidName) (defScope sEInvalidName) .none kV_InvalidName_init dc_InvalidName_init pm_InvalidName_init an_InvalidName_init cd_InvalidName_init ct_InvalidName_init
    F_InvalidName_init := F_InvalidName_init
    b_InvalidName_init := b_InvalidName_init
    kb_InvalidName_init := kb_InvalidName_init
    ei_InvalidName := ⟨ei_InvalidName, et_InvalidName⟩
    nf_InvalidName := nf_InvalidName
    C_InvalidNames := C_InvalidNames
    m_InvalidNames := PySem.W.mg_of X G aC_InvalidNames
    ec_InvalidNames := ⟨(by
      obtain ⟨a0, a1, a2, a3, a4, a5, a6, a7, a8, a9, a10, a11, a12, a13, e⟩ := xcl_InvalidNames
      exact ⟨a0, a1, a2, a3, a4, a5, a6, a7, a8, a9, a10, a11, a12, a13, lx_InvalidNames.trans (congrArg some e)⟩), esa_InvalidNames, ega_InvalidNames, egg_InvalidNames, eca_InvalidNames, ety_InvalidNames, ekc_InvalidNames⟩
    f_InvalidNames_init := f_InvalidNames_init
    fd_InvalidNames_init := PySem.W.fnOf "__init__" "InvalidNames.__init__" (defArgs sEInvalidNames) (defBody sEInvalidNames) (defScope sEInvalidNames) .none kV_InvalidNames_init dc_InvalidNames_init pm_InvalidNames_init an_InvalidNames_init cd_InvalidNames_init ct_InvalidNames_init
    F_InvalidNames_init := F_InvalidNames_init
    b_InvalidNames_init := b_InvalidNames_init
    kb_InvalidNames_init := kb_InvalidNames_init
    ei_InvalidNames := ⟨ei_InvalidNames, et_InvalidNames⟩
    nf_InvalidNames := nf_InvalidNames
    C_InvalidAmount := C_InvalidAmount
    m_InvalidAmount := PySem.W.mg_of X G aC_InvalidAmount
    ec_InvalidAmount := ⟨(by
      obtain ⟨a0, a1, a2, a3, a4, a5, a6, a7, a8, a9, a10, a11, a12, a13, e⟩ := xcl_InvalidAmount
      exact ⟨a0, a1, a2, a3, a4, a5, a6, a7, a8, a9, a10, a11, a12, a13, lx_InvalidAmount.trans (congrArg some e)⟩), esa_InvalidAmount, ega_InvalidAmount, egg_InvalidAmount, eca_InvalidAmount, ety_InvalidAmount, ekc_InvalidAmount⟩
    f_InvalidAmount_init := f_InvalidAmount_init
    fd_InvalidAmount_init := PySem.W.fnOf "__init__" "InvalidAmount.__init__" (defArgs sEInvalidAmount) (defBody sEInvalidAmount) (defScope sEInvalidAmount) .none kV_InvalidAmount_init dc_InvalidAmount_init pm_InvalidAmount_init an_InvalidAmount_init cd_InvalidAmount_init ct_InvalidAmount_init
    F_InvalidAmount_init := F_InvalidAmount_init
    b_InvalidAmount_init := b_InvalidAmount_init
    kb_InvalidAmount_init := kb_InvalidAmount_init
    ei_InvalidAmount := ⟨ei_InvalidAmount, et_InvalidAmount⟩
    nf_InvalidAmount := nf_InvalidAmount
    C_InvalidProgram := C_InvalidProgram
    m_InvalidProgram := PySem.W.mg_of X G aC_InvalidProgram
    ec_InvalidProgram := ⟨(by
      obtain ⟨a0, a1, a2, a3, a4, a5, a6, a7, a8, a9, a10, a11, a12, a13, e⟩ := xcl_InvalidProgram
      exact ⟨a0, a1, a2, a3, a4, a5, a6, a7, a8, a9, a10, a11, a12, a13, lx_InvalidProgram.trans (congrArg some e)⟩), esa_InvalidProgram, ega_InvalidProgram, egg_InvalidProgram, eca_InvalidProgram, ety_InvalidProgram, ekc_InvalidProgram⟩
    f_InvalidProgram_init := f_InvalidProgram_init
    fd_InvalidProgram_init := PySem.W.fnOf "__init__" "InvalidProgram.__init__" (defArgs sEInvalidProgram) (defBody sEInvalidProgram) (defScope sEInvalidProgram) .none kV_InvalidProgram_init dc_InvalidProgram_init pm_InvalidProgram_init an_InvalidProgram_init cd_InvalidProgram_init ct_InvalidProgram_init
    F_InvalidProgram_init := F_InvalidProgram_init
    b_InvalidProgram_init := b_InvalidProgram_init
    kb_InvalidProgram_init := kb_InvalidProgram_init
    ei_InvalidProgram := ⟨ei_InvalidProgram, et_InvalidProgram⟩
    nf_InvalidProgram := nf_InvalidProgram
    C_InvalidText := C_InvalidText
    m_InvalidText := PySem.W.mg_of X G aC_InvalidText
    ec_InvalidText := ⟨(by
      obtain ⟨a0, a1, a2, a3, a4, a5, a6, a7, a8, a9, a10, a11, a12, a13, e⟩ := xcl_InvalidText
      exact ⟨a0, a1, a2, a3, a4, a5, a6, a7, a8, a9, a10, a11, a12, a13, lx_InvalidText.trans (congrArg some e)⟩), esa_InvalidText, ega_InvalidText, egg_InvalidText, eca_InvalidText, ety_InvalidText, ekc_InvalidText⟩
    f_InvalidText_init := f_InvalidText_init
    fd_InvalidText_init := PySem.W.fnOf "__init__" "InvalidText.__init__" (defArgs sEInvalidText) (defBody sEInvalidText) (defScope sEInvalidText) .none kV_InvalidText_init dc_InvalidText_init pm_InvalidText_init an_InvalidText_init cd_InvalidText_init ct_InvalidText_init
    F_InvalidText_init := F_InvalidText_init
    b_InvalidText_init := b_InvalidText_init
    kb_InvalidText_init := kb_InvalidText_init
    ei_InvalidText := ⟨ei_InvalidText, et_InvalidText⟩
    nf_InvalidText := nf_InvalidText
    C_InvalidLength := C_InvalidLength
    m_InvalidLength := PySem.W.mg_of X G aC_InvalidLength
    ec_InvalidLength := ⟨(by
      obtain ⟨a0, a1, a2, a3, a4, a5, a6, a7, a8, a9, a10, a11, a12, a13, e⟩ := xcl_InvalidLength
      exact ⟨a0, a1, a2, a3, a4, a5, a6, a7, a8, a9, a10, a11, a12, a13, lx_InvalidLength.trans (congrArg some e)⟩), esa_InvalidLength, ega_InvalidLength, egg_InvalidLength, eca_InvalidLength, ety_InvalidLength, ekc_InvalidLength⟩
    f_InvalidLength_init := f_InvalidLength_init
    fd_InvalidLength_init := PySem.W.fnOf "__init__" "InvalidLength.__init__" (defArgs sEInvalidLength) (defBody sEInvalidLength) (defScope sEInvalidLength) .none kV_InvalidLength_init dc_InvalidLength_init pm_InvalidLength_init an_InvalidLength_init cd_InvalidLength_init ct_InvalidLength_init
    F_InvalidLength_init := F_InvalidLength_init
    b_InvalidLength_init := b_InvalidLength_init
    kb_InvalidLength_init := kb_InvalidLength_init
    ei_InvalidLength := ⟨ei_InvalidLength, et_InvalidLength⟩
    nf_InvalidLength := nf_InvalidLength
    C_InvalidCount := C_InvalidCount
    m_InvalidCount := PySem.W.mg_of X G aC_InvalidCount
    ec_InvalidCount := ⟨(by
      obtain ⟨a0, a1, a2, a3, a4, a5, a6, a7, a8, a9, a10, a11, a12, a13, e⟩ := xcl_InvalidCount
      exact ⟨a0, a1, a2, a3, a4, a5, a6, a7, a8, a9, a10, a11, a12, a13, lx_InvalidCount.trans (congrArg some e)⟩), esa_InvalidCount, ega_InvalidCount, egg_InvalidCount, eca_InvalidCount, ety_InvalidCount, ekc_InvalidCount⟩
    f_InvalidCount_init := f_InvalidCount_init
    fd_InvalidCount_init := PySem.W.fnOf "__init__" "InvalidCount.__init__" (defArgs sEInvalidCount) (defBody sEInvalidCount) (defScope sEInvalidCount) .none kV_InvalidCount_init dc_InvalidCount_init pm_InvalidCount_init an_InvalidCount_init cd_InvalidCount_init ct_InvalidCount_init
    F_InvalidCount_init := F_InvalidCount_init
    b_InvalidCount_init := b_InvalidCount_init
    kb_InvalidCount_init := kb_InvalidCount_init
    ei_InvalidCount := ⟨ei_InvalidCount, et_InvalidCount⟩
    nf_InvalidCount := nf_InvalidCount
    C_InvalidChanges := C_InvalidChanges
    m_InvalidChanges := PySem.W.mg_of X G aC_InvalidChanges
    ec_InvalidChanges := ⟨(by
      obtain ⟨a0, a1, a2, a3, a4, a5, a6, a7, a8, a9, a10, a11, a12, a13, e⟩ := xcl_InvalidChanges
      exact ⟨a0, a1, a2, a3, a4, a5, a6, a7, a8, a9, a10, a11, a12, a13, lx_InvalidChanges.trans (congrArg some e)⟩), esa_InvalidChanges, ega_InvalidChanges, egg_InvalidChanges, eca_InvalidChanges, ety_InvalidChanges, ekc_InvalidChanges⟩
    f_InvalidChanges_init := f_InvalidChanges_init
    fd_InvalidChanges_init := PySem.W.fnOf "__init__" "InvalidChanges.__init__" (defArgs sEInvalidChanges) (defBody sEInvalidChanges) (defScope sEInvalidChanges) .none kV_InvalidChanges_init dc_InvalidChanges_init pm_InvalidChanges_init an_InvalidChanges_init cd_InvalidChanges_init ct_InvalidChanges_init
    F_InvalidChanges_init := F_InvalidChanges_init
    b_InvalidChanges_init := b_InvalidChanges_init
    kb_InvalidChanges_init := kb_InvalidChanges_init
    ei_InvalidChanges := ⟨ei_InvalidChanges, et_InvalidChanges⟩
    nf_InvalidChanges := nf_InvalidChanges
    C_InvalidObservations := C_InvalidObservations
    m_InvalidObservations := PySem.W.mg_of X G aC_InvalidObservations
    ec_InvalidObservations := ⟨(by
      obtain ⟨a0, a1, a2, a3, a4, a5, a6, a7, a8, a9, a10, a11, a12, a13, e⟩ := xcl_InvalidObservations
      exact ⟨a0, a1, a2, a3, a4, a5, a6, a7, a8, a9, a10, a11, a12, a13, lx_InvalidObservations.trans (congrArg some e)⟩), esa_InvalidObservations, ega_InvalidObservations, egg_InvalidObservations, eca_InvalidObservations, ety_InvalidObservations, ekc_InvalidObservations⟩
    f_InvalidObservations_init := f_InvalidObservations_init
    fd_InvalidObservations_init := PySem.W.fnOf "__init__" "InvalidObservations.__init__" (defArgs sEInvalidObservations) (defBody sEInvalidObservations) (defScope sEInvalidObservations) .none kV_InvalidObservations_init dc_InvalidObservations_init pm_InvalidObservations_init an_InvalidObservations_init cd_InvalidObservations_init ct_InvalidObservations_init
    F_InvalidObservations_init := F_InvalidObservations_init
    b_InvalidObservations_init := b_InvalidObservations_init
    kb_InvalidObservations_init := kb_InvalidObservations_init
    ei_InvalidObservations := ⟨ei_InvalidObservations, et_InvalidObservations⟩
    nf_InvalidObservations := nf_InvalidObservations
    C_InvalidLimit := C_InvalidLimit
    m_InvalidLimit := PySem.W.mg_of X G aC_InvalidLimit
    ec_InvalidLimit := ⟨(by
      obtain ⟨a0, a1, a2, a3, a4, a5, a6, a7, a8, a9, a10, a11, a12, a13, e⟩ := xcl_InvalidLimit
      exact ⟨a0, a1, a2, a3, a4, a5, a6, a7, a8, a9, a10, a11, a12, a13, lx_InvalidLimit.trans (congrArg some e)⟩), esa_InvalidLimit, ega_InvalidLimit, egg_InvalidLimit, eca_InvalidLimit, ety_InvalidLimit, ekc_InvalidLimit⟩
    f_InvalidLimit_init := f_InvalidLimit_init
    fd_InvalidLimit_init := PySem.W.fnOf "__init__" "InvalidLimit.__init__" (defArgs sEInvalidLimit) (defBody sEInvalidLimit) (defScope sEInvalidLimit) .none kV_InvalidLimit_init dc_InvalidLimit_init pm_InvalidLimit_init an_InvalidLimit_init cd_InvalidLimit_init ct_InvalidLimit_init
    F_InvalidLimit_init := F_InvalidLimit_init
    b_InvalidLimit_init := b_InvalidLimit_init
    kb_InvalidLimit_init := kb_InvalidLimit_init
    ei_InvalidLimit := ⟨ei_InvalidLimit, et_InvalidLimit⟩
    nf_InvalidLimit := nf_InvalidLimit
    C_InvalidLine := C_InvalidLine
    m_InvalidLine := PySem.W.mg_of X G aC_InvalidLine
    ec_InvalidLine := ⟨(by
      obtain ⟨a0, a1, a2, a3, a4, a5, a6, a7, a8, a9, a10, a11, a12, a13, e⟩ := xcl_InvalidLine
      exact ⟨a0, a1, a2, a3, a4, a5, a6, a7, a8, a9, a10, a11, a12, a13, lx_InvalidLine.trans (congrArg some e)⟩), esa_InvalidLine, ega_InvalidLine, egg_InvalidLine, eca_InvalidLine, ety_InvalidLine, ekc_InvalidLine⟩
    f_InvalidLine_init := f_InvalidLine_init
    fd_InvalidLine_init := PySem.W.fnOf "__init__" "InvalidLine.__init__" (defArgs sEInvalidLine) (defBody sEInvalidLine) (defScope sEInvalidLine) .none kV_InvalidLine_init dc_InvalidLine_init pm_InvalidLine_init an_InvalidLine_init cd_InvalidLine_init ct_InvalidLine_init
    F_InvalidLine_init := F_InvalidLine_init
    b_InvalidLine_init := b_InvalidLine_init
    kb_InvalidLine_init := kb_InvalidLine_init
    ei_InvalidLine := ⟨ei_InvalidLine, et_InvalidLine⟩
    nf_InvalidLine := nf_InvalidLine
    C_NotAHistory := C_NotAHistory
    m_NotAHistory := PySem.W.mg_of X G aC_NotAHistory
    ec_NotAHistory := ⟨(by
      obtain ⟨a0, a1, a2, a3, a4, a5, a6, a7, a8, a9, a10, a11, a12, a13, e⟩ := xcl_NotAHistory
      exact ⟨a0, a1, a2, a3, a4, a5, a6, a7, a8, a9, a10, a11, a12, a13, lx_NotAHistory.trans (congrArg some e)⟩), esa_NotAHistory, ega_NotAHistory, egg_NotAHistory, eca_NotAHistory, ety_NotAHistory, ekc_NotAHistory⟩
    f_NotAHistory_init := f_NotAHistory_init
    fd_NotAHistory_init := PySem.W.fnOf "__init__" "NotAHistory.__init__" (defArgs sENotAHistory) (defBody sENotAHistory) (defScope sENotAHistory) .none kV_NotAHistory_init dc_NotAHistory_init pm_NotAHistory_init an_NotAHistory_init cd_NotAHistory_init ct_NotAHistory_init
    F_NotAHistory_init := F_NotAHistory_init
    b_NotAHistory_init := b_NotAHistory_init
    kb_NotAHistory_init := kb_NotAHistory_init
    ei_NotAHistory := ⟨ei_NotAHistory, et_NotAHistory⟩
    nf_NotAHistory := nf_NotAHistory
    C_NotAProgram := C_NotAProgram
    m_NotAProgram := PySem.W.mg_of X G aC_NotAProgram
    ec_NotAProgram := ⟨(by
      obtain ⟨a0, a1, a2, a3, a4, a5, a6, a7, a8, a9, a10, a11, a12, a13, e⟩ := xcl_NotAProgram
      exact ⟨a0, a1, a2, a3, a4, a5, a6, a7, a8, a9, a10, a11, a12, a13, lx_NotAProgram.trans (congrArg some e)⟩), esa_NotAProgram, ega_NotAProgram, egg_NotAProgram, eca_NotAProgram, ety_NotAProgram, ekc_NotAProgram⟩
    f_NotAProgram_init := f_NotAProgram_init
    fd_NotAProgram_init := PySem.W.fnOf "__init__" "NotAProgram.__init__" (defArgs sENotAProgram) (defBody sENotAProgram) (defScope sENotAProgram) .none kV_NotAProgram_init dc_NotAProgram_init pm_NotAProgram_init an_NotAProgram_init cd_NotAProgram_init ct_NotAProgram_init
    F_NotAProgram_init := F_NotAProgram_init
    b_NotAProgram_init := b_NotAProgram_init
    kb_NotAProgram_init := kb_NotAProgram_init
    ei_NotAProgram := ⟨ei_NotAProgram, et_NotAProgram⟩
    nf_NotAProgram := nf_NotAProgram
    C_NotAnEffect := C_NotAnEffect
    m_NotAnEffect := PySem.W.mg_of X G aC_NotAnEffect
    ec_NotAnEffect := ⟨(by
      obtain ⟨a0, a1, a2, a3, a4, a5, a6, a7, a8, a9, a10, a11, a12, a13, e⟩ := xcl_NotAnEffect
      exact ⟨a0, a1, a2, a3, a4, a5, a6, a7, a8, a9, a10, a11, a12, a13, lx_NotAnEffect.trans (congrArg some e)⟩), esa_NotAnEffect, ega_NotAnEffect, egg_NotAnEffect, eca_NotAnEffect, ety_NotAnEffect, ekc_NotAnEffect⟩
    f_NotAnEffect_init := f_NotAnEffect_init
    fd_NotAnEffect_init := PySem.W.fnOf "__init__" "NotAnEffect.__init__" (defArgs sENotAnEffect) (defBody sENotAnEffect) (defScope sENotAnEffect) .none kV_NotAnEffect_init dc_NotAnEffect_init pm_NotAnEffect_init an_NotAnEffect_init cd_NotAnEffect_init ct_NotAnEffect_init
    F_NotAnEffect_init := F_NotAnEffect_init
    b_NotAnEffect_init := b_NotAnEffect_init
    kb_NotAnEffect_init := kb_NotAnEffect_init
    ei_NotAnEffect := ⟨ei_NotAnEffect, et_NotAnEffect⟩
    nf_NotAnEffect := nf_NotAnEffect
    C_CannotRevert := C_CannotRevert
    m_CannotRevert := PySem.W.mg_of X G aC_CannotRevert
    ec_CannotRevert := ⟨(by
      obtain ⟨a0, a1, a2, a3, a4, a5, a6, a7, a8, a9, a10, a11, a12, a13, e⟩ := xcl_CannotRevert
      exact ⟨a0, a1, a2, a3, a4, a5, a6, a7, a8, a9, a10, a11, a12, a13, lx_CannotRevert.trans (congrArg some e)⟩), esa_CannotRevert, ega_CannotRevert, egg_CannotRevert, eca_CannotRevert, ety_CannotRevert, ekc_CannotRevert⟩
    ex_CannotRevert := ex_CannotRevert
    C_Busy := C_Busy
    m_Busy := PySem.W.mg_of X G aC_Busy
    ec_Busy := ⟨(by
      obtain ⟨a0, a1, a2, a3, a4, a5, a6, a7, a8, a9, a10, a11, a12, a13, e⟩ := xcl_Busy
      exact ⟨a0, a1, a2, a3, a4, a5, a6, a7, a8, a9, a10, a11, a12, a13, lx_Busy.trans (congrArg some e)⟩), esa_Busy, ega_Busy, egg_Busy, eca_Busy, ety_Busy, ekc_Busy⟩
    ex_Busy := ex_Busy
    C_TooManyDiscarded := C_TooManyDiscarded
    m_TooManyDiscarded := PySem.W.mg_of X G aC_TooManyDiscarded
    ec_TooManyDiscarded := ⟨(by
      obtain ⟨a0, a1, a2, a3, a4, a5, a6, a7, a8, a9, a10, a11, a12, a13, e⟩ := xcl_TooManyDiscarded
      exact ⟨a0, a1, a2, a3, a4, a5, a6, a7, a8, a9, a10, a11, a12, a13, lx_TooManyDiscarded.trans (congrArg some e)⟩), esa_TooManyDiscarded, ega_TooManyDiscarded, egg_TooManyDiscarded, eca_TooManyDiscarded, ety_TooManyDiscarded, ekc_TooManyDiscarded⟩
    f_TooManyDiscarded_init := f_TooManyDiscarded_init
    fd_TooManyDiscarded_init := PySem.W.fnOf "__init__" "TooManyDiscarded.__init__" (defArgs sETooManyDiscarded) (defBody sETooManyDiscarded) (defScope sETooManyDiscarded) .none kV_TooManyDiscarded_init dc_TooManyDiscarded_init pm_TooManyDiscarded_init an_TooManyDiscarded_init cd_TooManyDiscarded_init ct_TooManyDiscarded_init
    F_TooManyDiscarded_init := F_TooManyDiscarded_init
    b_TooManyDiscarded_init := b_TooManyDiscarded_init
    kb_TooManyDiscarded_init := kb_TooManyDiscarded_init
    ei_TooManyDiscarded := ⟨ei_TooManyDiscarded, et_TooManyDiscarded⟩
    nf_TooManyDiscarded := nf_TooManyDiscarded
    clsg := ⟨cg_hn, cg_ht⟩
    nd_err := nd_err
    C_History := C_History
    m_History := PySem.W.mg_of X G aC_History
    cl_History := cl_History
    is_History := ⟨cl_History, ia_History, in_History, it_History, im_History, ie_History⟩
    kt_History_NoneType := kt_History_NoneType
    kt_History_int := kt_History_int
    kt_History_bool := kt_History_bool
    kt_History_str := kt_History_str
    kt_History_tuple := kt_History_tuple
    kt_History_list := kt_History_list
    kt_History_dict := kt_History_dict
    n_History_past := n_History_past
    n_History_future := n_History_future
    n_History___bool__ := n_History___bool__
    f_History_init := f_History_init
    fd_History_init := PySem.W.fnOf "__init__" "History.__init__" (defArgs sHInit) (defBody sHInit) (defScope sHInit) (.ref T_History_init) kV_History_init dc_History_init pm_History_init an_History_init cd_History_init ct_History_init
    F_History_init := F_History_init
    e0_History_init := e0_History_init
    t0_History_init := fun H => .inr ⟨_, _, _, le0_History_init, ce0_History_init, de0_History_init, Nat.zero_le _, .nil⟩
    e1_History_init := e1_History_init
    t1_History_init := fun H => .inr ⟨_, _, _, le1_History_init, ce1_History_init, de1_History_init, Nat.zero_le _, .nil⟩
    ds0_History_init := ds0_History_init
    v0_History_init := v0_History_init
    b0_History_init := b0_History_init
    ds1_History_init := ds1_History_init
    v1_History_init := v1_History_init
    b1_History_init := b1_History_init
    ds2_History_init := ds2_History_init
    v2_History_init := v2_History_init
    b2_History_init := b2_History_init
    kd0_History_init := ⟨F_History_init.kbindsD 1 ["future", "past"] g2r (by simp) g2r_rel fun _ _ _ _ _ _ _ us its ws hu hi hw => match us, its, ws, hu, hi, hw with | [_], [_, _], [_, _], _, _, _ => ⟨_, rfl, rfl⟩⟩
    kd1_History_init := ⟨F_History_init.kbindsD 1 ["future"] g2f (by simp) g2f_rel fun _ _ _ _ _ _ _ us its ws hu hi hw => match us, its, ws, hu, hi, hw with | [_], [_, _], [_], _, _, _ => ⟨_, rfl, rfl⟩⟩
    mk_History := ⟨mk_History, ai_History_init, ii_History_init, kc_History⟩
    f_History_line := f_History_line
    fd_History_line := PySem.W.fnOf "line" "History.line" (defArgs sHLine) (defBody sHLine) (defScope sHLine) .none kV_History_line dc_History_line pm_History_line an_History_line cd_History_line ct_History_line
    F_History_line := F_History_line
    b_History_line := b_History_line
    q_History_line := q_History_line
    pr_History_line := ⟨qa_History_line, qg_History_line, qt_History_line, ⟨_, qr_History_line⟩⟩
    f_History_do := f_History_do
    fd_History_do := PySem.W.fnOf "do" "History.do" (defArgs sHDo) (defBody sHDo) (defScope sHDo) .none kV_History_do dc_History_do pm_History_do an_History_do cd_History_do ct_History_do
    F_History_do := F_History_do
    b_History_do := b_History_do
    me_History_do := ⟨me_History_do, mi_History_do, k_History_do⟩
    f_History_undo := f_History_undo
    fd_History_undo := PySem.W.fnOf "undo" "History.undo" (defArgs sHUndo) (defBody sHUndo) (defScope sHUndo) (.ref T_History_undo) kV_History_undo dc_History_undo pm_History_undo an_History_undo cd_History_undo ct_History_undo
    F_History_undo := F_History_undo
    ds0_History_undo := ds0_History_undo
    v0_History_undo := v0_History_undo
    b0_History_undo := b0_History_undo
    b_History_undo := b_History_undo
    me_History_undo := ⟨me_History_undo, mi_History_undo, k_History_undo⟩
    f_History_redo := f_History_redo
    fd_History_redo := PySem.W.fnOf "redo" "History.redo" (defArgs sHRedo) (defBody sHRedo) (defScope sHRedo) (.ref T_History_redo) kV_History_redo dc_History_redo pm_History_redo an_History_redo cd_History_redo ct_History_redo
    F_History_redo := F_History_redo
    ds0_History_redo := ds0_History_redo
    v0_History_redo := v0_History_redo
    b0_History_redo := b0_History_redo
    b_History_redo := b_History_redo
    me_History_redo := ⟨me_History_redo, mi_History_redo, k_History_redo⟩
    f_History_eq := f_History_eq
    fd_History_eq := PySem.W.fnOf "__eq__" "History.__eq__" (defArgs sHEq) (defBody sHEq) (defScope sHEq) .none kV_History_eq dc_History_eq pm_History_eq an_History_eq cd_History_eq ct_History_eq
    F_History_eq := F_History_eq
    b_History_eq := b_History_eq
    eo_History := ⟨me_History_eq, mi_History_eq, mn_History_eq, im_History⟩
    f_History_of := f_History_of
    F_History_of := F_History_of
    q_History_of := q_History_of
    cm_History_of := ⟨sa_History_of, ⟨_, sr_History_of⟩, fn_History_of⟩
    cr_History := ⟨rd_History, ga_History⟩
    f_History_len := f_History_len
    fd_History_len := PySem.W.fnOf "__len__" "History.__len__" (defArgs sHLen) (defBody sHLen) (defScope sHLen) .none kV_History_len dc_History_len pm_History_len an_History_len cd_History_len ct_History_len
    F_History_len := F_History_len
    b_History_len := b_History_len
    ln_History := ⟨me_History_len, mi_History_len⟩ }
  refine ⟨PySem.W.fnOf "law" "law" (defArgs sLaw) (defBody sLaw) (defScope sLaw) .none kV_Law dc_Law pm_Law an_Law cd_Law ct_Law, [(cc_LMade, P_LMade), (cc_OfRight, P_OfRight)], spLaw K (tS T), {
    tab := fun p hp => by
      simp only [List.mem_cons, List.not_mem_nil, or_false] at hp
      rcases hp with rfl | rfl
      · exact ht_LMade
      · exact ht_OfRight
    out := fun p hp => by
      simp only [List.mem_cons, List.not_mem_nil, or_false] at hp
      rcases hp with rfl | rfl
      · exact nt_LMade
      · exact nt_OfRight
    code := fun p hp => by
      simp only [List.mem_cons, List.not_mem_nil, or_false] at hp
      rcases hp with rfl | rfl
      · exact codeHd_of X lc_LMade okc_LMade
      · exact codeHd_of X lc_OfRight okc_OfRight
    bind := fun s v => .of_eq rfl
    say := fun H a ns hl ht hs => ⟨a, ns, rfl, hs, hl, tabs0 (fun p hp => by
      simp only [tS, List.mem_cons, List.not_mem_nil, or_false] at hp
      rcases hp with rfl | rfl
      · exact ht (cc_LMade, P_LMade) (by simp)
      · exact ht (cc_OfRight, P_OfRight) (by simp)), fun _ => rfl⟩
    run := fun base _ _ tb => ok_law (P := l.prog) (w := w) (base := base) T ⟨tb (cc_LMade, P_LMade) (by simp), by simp [tS, T], fun p hp e => tab_uq (Ts := tS T) nd_tab (by simp [tS, T]) p hp e⟩ ⟨tb (cc_OfRight, P_OfRight) (by simp), by simp [tS, T], fun p hp e => tab_uq (Ts := tS T) nd_tab (by simp [tS, T]) p hp e⟩ }⟩

end Und
open PySem PySem.W PyProof.Rows
set_option maxHeartbeats 0 in
theorem PySem.Challenge.cw_undotables_k02_histories_made_and_refuse_holds : PySem.Challenge.rw_undotables_k02_histories_made_and_refuse.Holds := by
  w_on; o_law; k_head; (case hw => w_witness2)
  k_fill
  refine Und.walk_ofT (l := PySem.Challenge.rw_undotables_k02_histories_made_and_refuse) (n := 63) (k := 14) (x := "_law_script") (CX := fun _ => L2.CX0) rfl (by decide) rfl ⟨rfl, by decide, by decide⟩ (fun w h Y => PySem.W.km_in_of Y) ?F (fun _ _ _ _ _ h => h)
  case F =>
    intro w mg fa h Y KX G hmg
    refine' Und.all_mk KX G hmg ?a_IsName ?l_IsName ?c_IsName ?k_IsName ?a_IsAm ?l_IsAm ?c_IsAm ?k_IsAm ?a_ChName ?l_ChName ?c_ChName ?k_ChName ?a_ChNames ?l_ChNames ?c_ChNames ?k_ChNames ?a_ChAm ?l_ChAm ?c_ChAm ?k_ChAm ?a_Moved ?l_Moved ?c_Moved ?k_Moved ?a_HWith ?l_HWith ?c_HWith ?k_HWith ?a_Cell ?l_Cell ?c_Cell ?k_Cell ?a_Pool ?l_Pool ?c_Pool ?k_Pool ?a_Draw ?l_Draw ?c_Draw ?k_Draw ?a_Calls ?l_Calls ?c_Calls ?k_Calls ?a_Error ?l_Error ?c_Error ?k_Error ?a_Caught ?l_Caught ?c_Caught ?k_Caught ?a_Bad ?l_Bad ?c_Bad ?k_Bad ?a_LMade ?l_LMade ?c_LMade ?k_LMade ?lc_LMade ?pt_LMade ?okc_LMade ?nt_LMade ?ht_LMade ?a_Shown ?l_Shown ?c_Shown ?k_Shown ?a_Right ?l_Right ?c_Right ?k_Right ?a_OfRight ?l_OfRight ?c_OfRight ?k_OfRight ?lc_OfRight ?pt_OfRight ?okc_OfRight ?nt_OfRight ?ht_OfRight ?a_Law ?l_Law ?c_Law ?k_Law ?z_abs ?z_all ?z_any ?z_bool ?z_divmod ?z_enumerate ?z_int ?z_isinstance ?z_len ?z_list ?z_max ?z_min ?z_range ?z_repr ?z_str ?z_tuple ?z_ValueError ?z_LookupError ?z_ArithmeticError ?a_LONGEST_NAME ?nd_tab ?aC_UndoError ?bx_UndoError ?bi_UndoError ?bt_UndoError ?aC_StateError ?bx_StateError ?bi_StateError ?bt_StateError ?aC_LimitError ?bx_LimitError ?bi_LimitError ?bt_LimitError ?aC_InvalidName ?lx_InvalidName ?xcl_InvalidName ?esa_InvalidName ?ega_InvalidName ?egg_InvalidName ?eca_InvalidName ?ety_InvalidName ?ekc_InvalidName ?ei_InvalidName ?l_InvalidName_init ?c_InvalidName_init ?k_InvalidName_init ?et_InvalidName ?nf_InvalidName ?aC_InvalidNames ?lx_InvalidNames ?xcl_InvalidNames ?esa_InvalidNames ?ega_InvalidNames ?egg_InvalidNames ?eca_InvalidNames ?ety_InvalidNames ?ekc_InvalidNames ?ei_InvalidNames ?l_InvalidNames_init ?c_InvalidNames_init ?k_InvalidNames_init ?et_InvalidNames ?nf_InvalidNames ?aC_InvalidAmount ?lx_InvalidAmount ?xcl_InvalidAmount ?esa_InvalidAmount ?ega_InvalidAmount ?egg_InvalidAmount ?eca_InvalidAmount ?ety_InvalidAmount ?ekc_InvalidAmount ?ei_InvalidAmount ?l_InvalidAmount_init ?c_InvalidAmount_init ?k_InvalidAmount_init ?et_InvalidAmount ?nf_InvalidAmount ?aC_InvalidProgram ?lx_InvalidProgram ?xcl_InvalidProgram ?esa_InvalidProgram ?ega_InvalidProgram ?egg_InvalidProgram ?eca_InvalidProgram ?ety_InvalidProgram ?ekc_InvalidProgram ?ei_InvalidProgram ?l_InvalidProgram_init ?c_InvalidProgram_init ?k_InvalidProgram_init ?et_InvalidProgram ?nf_InvalidProgram ?aC_InvalidText ?lx_InvalidText ?xcl_InvalidText ?esa_InvalidText ?ega_InvalidText ?egg_InvalidText ?eca_InvalidText ?ety_InvalidText ?ekc_InvalidText ?ei_InvalidText ?l_InvalidText_init ?c_InvalidText_init ?k_InvalidText_init ?et_InvalidText ?nf_InvalidText ?aC_InvalidLength ?lx_InvalidLength ?xcl_InvalidLength ?esa_InvalidLength ?ega_InvalidLength ?egg_InvalidLength ?eca_InvalidLength ?ety_InvalidLength ?ekc_InvalidLength ?ei_InvalidLength ?l_InvalidLength_init ?c_InvalidLength_init ?k_InvalidLength_init ?et_InvalidLength ?nf_InvalidLength ?aC_InvalidCount ?lx_InvalidCount ?xcl_InvalidCount ?esa_InvalidCount ?ega_InvalidCount ?egg_InvalidCount ?eca_InvalidCount ?ety_InvalidCount ?ekc_InvalidCount ?ei_InvalidCount ?l_InvalidCount_init ?c_InvalidCount_init ?k_InvalidCount_init ?et_InvalidCount ?nf_InvalidCount ?aC_InvalidChanges ?lx_InvalidChanges ?xcl_InvalidChanges ?esa_InvalidChanges ?ega_InvalidChanges ?egg_InvalidChanges ?eca_InvalidChanges ?ety_InvalidChanges ?ekc_InvalidChanges ?ei_InvalidChanges ?l_InvalidChanges_init ?c_InvalidChanges_init ?k_InvalidChanges_init ?et_InvalidChanges ?nf_InvalidChanges ?aC_InvalidObservations ?lx_InvalidObservations ?xcl_InvalidObservations ?esa_InvalidObservations ?ega_InvalidObservations ?egg_InvalidObservations ?eca_InvalidObservations ?ety_InvalidObservations ?ekc_InvalidObservations ?ei_InvalidObservations ?l_InvalidObservations_init ?c_InvalidObservations_init ?k_InvalidObservations_init ?et_InvalidObservations ?nf_InvalidObservations ?aC_InvalidLimit ?lx_InvalidLimit ?xcl_InvalidLimit ?esa_InvalidLimit ?ega_InvalidLimit ?egg_InvalidLimit ?eca_InvalidLimit ?ety_InvalidLimit ?ekc_InvalidLimit ?ei_InvalidLimit ?l_InvalidLimit_init ?c_InvalidLimit_init ?k_InvalidLimit_init ?et_InvalidLimit ?nf_InvalidLimit ?aC_InvalidLine ?lx_InvalidLine ?xcl_InvalidLine ?esa_InvalidLine ?ega_InvalidLine ?egg_InvalidLine ?eca_InvalidLine ?ety_InvalidLine ?ekc_InvalidLine ?ei_InvalidLine ?l_InvalidLine_init ?c_InvalidLine_init ?k_InvalidLine_init ?et_InvalidLine ?nf_InvalidLine ?aC_NotAHistory ?lx_NotAHistory ?xcl_NotAHistory ?esa_NotAHistory ?ega_NotAHistory ?egg_NotAHistory ?eca_NotAHistory ?ety_NotAHistory ?ekc_NotAHistory ?ei_NotAHistory ?l_NotAHistory_init ?c_NotAHistory_init ?k_NotAHistory_init ?et_NotAHistory ?nf_NotAHistory ?aC_NotAProgram ?lx_NotAProgram ?xcl_NotAProgram ?esa_NotAProgram ?ega_NotAProgram ?egg_NotAProgram ?eca_NotAProgram ?ety_NotAProgram ?ekc_NotAProgram ?ei_NotAProgram ?l_NotAProgram_init ?c_NotAProgram_init ?k_NotAProgram_init ?et_NotAProgram ?nf_NotAProgram ?aC_NotAnEffect ?lx_NotAnEffect ?xcl_NotAnEffect ?esa_NotAnEffect ?ega_NotAnEffect ?egg_NotAnEffect ?eca_NotAnEffect ?ety_NotAnEffect ?ekc_NotAnEffect ?ei_NotAnEffect ?l_NotAnEffect_init ?c_NotAnEffect_init ?k_NotAnEffect_init ?et_NotAnEffect ?nf_NotAnEffect ?aC_CannotRevert ?lx_CannotRevert ?xcl_CannotRevert ?esa_CannotRevert ?ega_CannotRevert ?egg_CannotRevert ?eca_CannotRevert ?ety_CannotRevert ?ekc_CannotRevert ?ex_CannotRevert ?aC_Busy ?lx_Busy ?xcl_Busy ?esa_Busy ?ega_Busy ?egg_Busy ?eca_Busy ?ety_Busy ?ekc_Busy ?ex_Busy ?aC_TooManyDiscarded ?lx_TooManyDiscarded ?xcl_TooManyDiscarded ?esa_TooManyDiscarded ?ega_TooManyDiscarded ?egg_TooManyDiscarded ?eca_TooManyDiscarded ?ety_TooManyDiscarded ?ekc_TooManyDiscarded ?ei_TooManyDiscarded ?l_TooManyDiscarded_init ?c_TooManyDiscarded_init ?k_TooManyDiscarded_init ?et_TooManyDiscarded ?nf_TooManyDiscarded ?cg_hn ?cg_ht ?nd_err ?aC_History ?pg_History ?hd_History ?po_History ?sa_History ?mk_History ?kc_History ?ia_History ?in_History ?it_History ?im_History ?kt_History_NoneType ?kt_History_int ?kt_History_bool ?kt_History_str ?kt_History_tuple ?kt_History_list ?kt_History_dict ?n_History_past ?n_History_future ?n_History___bool__ ?ai_History_init ?l_History_init ?c_History_init ?k_History_init ?lT_History_init ?oT_d_History_init ?le0_History_init ?ce0_History_init ?de0_History_init ?le1_History_init ?ce1_History_init ?de1_History_init ?ii_History_init ?qa_History_line ?qr_History_line ?l_History_line ?c_History_line ?k_History_line ?qg_History_line ?qt_History_line ?me_History_do ?l_History_do ?c_History_do ?k_History_do ?mi_History_do ?me_History_undo ?l_History_undo ?c_History_undo ?k_History_undo ?lT_History_undo ?oT_d_History_undo ?mi_History_undo ?me_History_redo ?l_History_redo ?c_History_redo ?k_History_redo ?lT_History_redo ?oT_d_History_redo ?mi_History_redo ?me_History_eq ?l_History_eq ?c_History_eq ?k_History_eq ?mi_History_eq ?mn_History_eq ?sa_History_of ?sr_History_of ?fn_History_of ?rd_History ?ga_History ?l_History_of ?c_History_of ?k_History_of ?me_History_len ?l_History_len ?c_History_len ?k_History_len ?mi_History_len
    (case a_IsName => k_is)
    (case l_IsName => k_is)
    (case c_IsName => k_is)
    (case k_IsName => k_is)
    (case a_IsAm => k_is)
    (case l_IsAm => k_is)
    (case c_IsAm => k_is)
    (case k_IsAm => k_is)
    (case a_ChName => k_is)
    (case l_ChName => k_is)
    (case c_ChName => k_is)
    (case k_ChName => k_is)
    (case a_ChNames => k_is)
    (case l_ChNames => k_is)
    (case c_ChNames => k_is)
    (case k_ChNames => k_is)
    (case a_ChAm => k_is)
    (case l_ChAm => k_is)
    (case c_ChAm => k_is)
    (case k_ChAm => k_is)
    (case a_Moved => k_is)
    (case l_Moved => k_is)
    (case c_Moved => k_is)
    (case k_Moved => k_is)
    (case a_HWith => k_is)
    (case l_HWith => k_is)
    (case c_HWith => k_is)
    (case k_HWith => k_is)
    (case a_Cell => k_is)
    (case l_Cell => k_is)
    (case c_Cell => k_is)
    (case k_Cell => k_is)
    (case a_Pool => k_is)
    (case l_Pool => k_is)
    (case c_Pool => k_is)
    (case k_Pool => k_is)
    (case a_Draw => k_is)
    (case l_Draw => k_is)
    (case c_Draw => k_is)
    (case k_Draw => k_is)
    (case a_Calls => k_is)
    (case l_Calls => k_is)
    (case c_Calls => k_is)
    (case k_Calls => k_is)
    (case a_Error => k_is)
    (case l_Error => k_is)
    (case c_Error => k_is)
    (case k_Error => k_is)
    (case a_Caught => k_is)
    (case l_Caught => k_is)
    (case c_Caught => k_is)
    (case k_Caught => k_is)
    (case a_Bad => k_is)
    (case l_Bad => k_is)
    (case c_Bad => k_is)
    (case k_Bad => k_is)
    (case a_LMade => k_is)
    (case l_LMade => k_is)
    (case c_LMade => k_is)
    (case k_LMade => k_is)
    (case lc_LMade => k_is)
    (case pt_LMade => rfl)
    (case okc_LMade => kernel_rfl)
    (case nt_LMade => kernel_rfl)
    (case ht_LMade => exact PySem.W.km_tabs_of Y _ (by simp))
    (case a_Shown => k_is)
    (case l_Shown => k_is)
    (case c_Shown => k_is)
    (case k_Shown => k_is)
    (case a_Right => k_is)
    (case l_Right => k_is)
    (case c_Right => k_is)
    (case k_Right => k_is)
    (case a_OfRight => k_is)
    (case l_OfRight => k_is)
    (case c_OfRight => k_is)
    (case k_OfRight => k_is)
    (case lc_OfRight => k_is)
    (case pt_OfRight => rfl)
    (case okc_OfRight => kernel_rfl)
    (case nt_OfRight => kernel_rfl)
    (case ht_OfRight => exact PySem.W.km_tabs_of Y _ (by simp))
    (case a_Law => k_is)
    (case l_Law => k_is)
    (case c_Law => k_is)
    (case k_Law => k_is)
    (case z_abs => k_is)
    (case z_all => k_is)
    (case z_any => k_is)
    (case z_bool => k_is)
    (case z_divmod => k_is)
    (case z_enumerate => k_is)
    (case z_int => k_is)
    (case z_isinstance => k_is)
    (case z_len => k_is)
    (case z_list => k_is)
    (case z_max => k_is)
    (case z_min => k_is)
    (case z_range => k_is)
    (case z_repr => k_is)
    (case z_str => k_is)
    (case z_tuple => k_is)
    (case z_ValueError => k_is)
    (case z_LookupError => k_is)
    (case z_ArithmeticError => k_is)
    (case a_LONGEST_NAME => k_is)
    (case nd_tab => decide)
    (case aC_UndoError => k_is)
    (case bx_UndoError => k_is)
    (case bi_UndoError => k_is)
    (case bt_UndoError => k_is)
    (case aC_StateError => k_is)
    (case bx_StateError => k_is)
    (case bi_StateError => k_is)
    (case bt_StateError => k_is)
    (case aC_LimitError => k_is)
    (case bx_LimitError => k_is)
    (case bi_LimitError => k_is)
    (case bt_LimitError => k_is)
    (case aC_InvalidName => k_is)
    (case lx_InvalidName => k_is)
    (case xcl_InvalidName => exact ⟨_, _, _, _, _, _, _, _, _, _, _, _, _, _, rfl⟩)
    (case esa_InvalidName => k_is)
    (case ega_InvalidName => k_is)
    (case egg_InvalidName => k_is)
    (case eca_InvalidName => k_is)
    (case ety_InvalidName => k_is)
    (case ekc_InvalidName => k_is)
    (case ei_InvalidName => k_is)
    (case l_InvalidName_init => k_is)
    (case c_InvalidName_init => k_is)
    (case k_InvalidName_init => k_is)
    (case et_InvalidName => k_is)
    (case nf_InvalidName => k_is)
    (case aC_InvalidNames => k_is)
    (case lx_InvalidNames => k_is)
    (case xcl_InvalidNames => exact ⟨_, _, _, _, _, _, _, _, _, _, _, _, _, _, rfl⟩)
    (case esa_InvalidNames => k_is)
    (case ega_InvalidNames => k_is)
    (case egg_InvalidNames => k_is)
    (case eca_InvalidNames => k_is)
    (case ety_InvalidNames => k_is)
    (case ekc_InvalidNames => k_is)
    (case ei_InvalidNames => k_is)
    (case l_InvalidNames_init => k_is)
    (case c_InvalidNames_init => k_is)
    (case k_InvalidNames_init => k_is)
    (case et_InvalidNames => k_is)
    (case nf_InvalidNames => k_is)
    (case aC_InvalidAmount => k_is)
    (case lx_InvalidAmount => k_is)
    (case xcl_InvalidAmount => exact ⟨_, _, _, _, _, _, _, _, _, _, _, _, _, _, rfl⟩)
    (case esa_InvalidAmount => k_is)
    (case ega_InvalidAmount => k_is)
    (case egg_InvalidAmount => k_is)
    (case eca_InvalidAmount => k_is)
    (case ety_InvalidAmount => k_is)
    (case ekc_InvalidAmount => k_is)
    (case ei_InvalidAmount => k_is)
    (case l_InvalidAmount_init => k_is)
    (case c_InvalidAmount_init => k_is)
    (case k_InvalidAmount_init => k_is)
    (case et_InvalidAmount => k_is)
    (case nf_InvalidAmount => k_is)
    (case aC_InvalidProgram => k_is)
    (case lx_InvalidProgram => k_is)
    (case xcl_InvalidProgram => exact ⟨_, _, _, _, _, _, _, _, _, _, _, _, _, _, rfl⟩)
    (case esa_InvalidProgram => k_is)
    (case ega_InvalidProgram => k_is)
    (case egg_InvalidProgram => k_is)
    (case eca_InvalidProgram => k_is)
    (case ety_InvalidProgram => k_is)
    (case ekc_InvalidProgram => k_is)
    (case ei_InvalidProgram => k_is)
    (case l_InvalidProgram_init => k_is)
    (case c_InvalidProgram_init => k_is)
    (case k_InvalidProgram_init => k_is)
    (case et_InvalidProgram => k_is)
    (case nf_InvalidProgram => k_is)
    (case aC_InvalidText => k_is)
    (case lx_InvalidText => k_is)
    (case xcl_InvalidText => exact ⟨_, _, _, _, _, _, _, _, _, _, _, _, _, _, rfl⟩)
    (case esa_InvalidText => k_is)
    (case ega_InvalidText => k_is)
    (case egg_InvalidText => k_is)
    (case eca_InvalidText => k_is)
    (case ety_InvalidText => k_is)
    (case ekc_InvalidText => k_is)
    (case ei_InvalidText => k_is)
    (case l_InvalidText_init => k_is)
    (case c_InvalidText_init => k_is)
    (case k_InvalidText_init => k_is)
    (case et_InvalidText => k_is)
    (case nf_InvalidText => k_is)
    (case aC_InvalidLength => k_is)
    (case lx_InvalidLength => k_is)
    (case xcl_InvalidLength => exact ⟨_, _, _, _, _, _, _, _, _, _, _, _, _, _, rfl⟩)
    (case esa_InvalidLength => k_is)
    (case ega_InvalidLength => k_is)
    (case egg_InvalidLength => k_is)
    (case eca_InvalidLength => k_is)
    (case ety_InvalidLength => k_is)
    (case ekc_InvalidLength => k_is)
    (case ei_InvalidLength => k_is)
    (case l_InvalidLength_init => k_is)
    (case c_InvalidLength_init => k_is)
    (case k_InvalidLength_init => k_is)
    (case et_InvalidLength => k_is)
    (case nf_InvalidLength => k_is)
    (case aC_InvalidCount => k_is)
    (case lx_InvalidCount => k_is)
    (case xcl_InvalidCount => exact ⟨_, _, _, _, _, _, _, _, _, _, _, _, _, _, rfl⟩)
    (case esa_InvalidCount => k_is)
    (case ega_InvalidCount => k_is)
    (case egg_InvalidCount => k_is)
    (case eca_InvalidCount => k_is)
    (case ety_InvalidCount => k_is)
    (case ekc_InvalidCount => k_is)
    (case ei_InvalidCount => k_is)
    (case l_InvalidCount_init => k_is)
    (case c_InvalidCount_init => k_is)
    (case k_InvalidCount_init => k_is)
    (case et_InvalidCount => k_is)
    (case nf_InvalidCount => k_is)
    (case aC_InvalidChanges => k_is)
    (case lx_InvalidChanges => k_is)
    (case xcl_InvalidChanges => exact ⟨_, _, _, _, _, _, _, _, _, _, _, _, _, _, rfl⟩)
    (case esa_InvalidChanges => k_is)
    (case ega_InvalidChanges => k_is)
    (case egg_InvalidChanges => k_is)
    (case eca_InvalidChanges => k_is)
    (case ety_InvalidChanges => k_is)
    (case ekc_InvalidChanges => k_is)
    (case ei_InvalidChanges => k_is)
    (case l_InvalidChanges_init => k_is)
    (case c_InvalidChanges_init => k_is)
    (case k_InvalidChanges_init => k_is)
    (case et_InvalidChanges => k_is)
    (case nf_InvalidChanges => k_is)
    (case aC_InvalidObservations => k_is)
    (case lx_InvalidObservations => k_is)
    (case xcl_InvalidObservations => exact ⟨_, _, _, _, _, _, _, _, _, _, _, _, _, _, rfl⟩)
    (case esa_InvalidObservations => k_is)
    (case ega_InvalidObservations => k_is)
    (case egg_InvalidObservations => k_is)
    (case eca_InvalidObservations => k_is)
    (case ety_InvalidObservations => k_is)
    (case ekc_InvalidObservations => k_is)
    (case ei_InvalidObservations => k_is)
    (case l_InvalidObservations_init => k_is)
    (case c_InvalidObservations_init => k_is)
    (case k_InvalidObservations_init => k_is)
    (case et_InvalidObservations => k_is)
    (case nf_InvalidObservations => k_is)
    (case aC_InvalidLimit => k_is)
    (case lx_InvalidLimit => k_is)
    (case xcl_InvalidLimit => exact ⟨_, _, _, _, _, _, _, _, _, _, _, _, _, _, rfl⟩)
    (case esa_InvalidLimit => k_is)
    (case ega_InvalidLimit => k_is)
    (case egg_InvalidLimit => k_is)
    (case eca_InvalidLimit => k_is)
    (case ety_InvalidLimit => k_is)
    (case ekc_InvalidLimit => k_is)
    (case ei_InvalidLimit => k_is)
    (case l_InvalidLimit_init => k_is)
    (case c_InvalidLimit_init => k_is)
    (case k_InvalidLimit_init => k_is)
    (case et_InvalidLimit => k_is)
    (case nf_InvalidLimit => k_is)
    (case aC_InvalidLine => k_is)
    (case lx_InvalidLine => k_is)
    (case xcl_InvalidLine => exact ⟨_, _, _, _, _, _, _, _, _, _, _, _, _, _, rfl⟩)
    (case esa_InvalidLine => k_is)
    (case ega_InvalidLine => k_is)
    (case egg_InvalidLine => k_is)
    (case eca_InvalidLine => k_is)
    (case ety_InvalidLine => k_is)
    (case ekc_InvalidLine => k_is)
    (case ei_InvalidLine => k_is)
    (case l_InvalidLine_init => k_is)
    (case c_InvalidLine_init => k_is)
    (case k_InvalidLine_init => k_is)
    (case et_InvalidLine => k_is)
    (case nf_InvalidLine => k_is)
    (case aC_NotAHistory => k_is)
    (case lx_NotAHistory => k_is)
    (case xcl_NotAHistory => exact ⟨_, _, _, _, _, _, _, _, _, _, _, _, _, _, rfl⟩)
    (case esa_NotAHistory => k_is)
    (case ega_NotAHistory => k_is)
    (case egg_NotAHistory => k_is)
    (case eca_NotAHistory => k_is)
    (case ety_NotAHistory => k_is)
    (case ekc_NotAHistory => k_is)
    (case ei_NotAHistory => k_is)
    (case l_NotAHistory_init => k_is)
    (case c_NotAHistory_init => k_is)
    (case k_NotAHistory_init => k_is)
    (case et_NotAHistory => k_is)
    (case nf_NotAHistory => k_is)
    (case aC_NotAProgram => k_is)
    (case lx_NotAProgram => k_is)
    (case xcl_NotAProgram => exact ⟨_, _, _, _, _, _, _, _, _, _, _, _, _, _, rfl⟩)
    (case esa_NotAProgram => k_is)
    (case ega_NotAProgram => k_is)
    (case egg_NotAProgram => k_is)
    (case eca_NotAProgram => k_is)
    (case ety_NotAProgram => k_is)
    (case ekc_NotAProgram => k_is)
    (case ei_NotAProgram => k_is)
    (case l_NotAProgram_init => k_is)
    (case c_NotAProgram_init => k_is)
    (case k_NotAProgram_init => k_is)
    (case et_NotAProgram => k_is)
    (case nf_NotAProgram => k_is)
    (case aC_NotAnEffect => k_is)
    (case lx_NotAnEffect => k_is)
    (case xcl_NotAnEffect => exact ⟨_, _, _, _, _, _, _, _, _, _, _, _, _, _, rfl⟩)
    (case esa_NotAnEffect => k_is)
    (case ega_NotAnEffect => k_is)
    (case egg_NotAnEffect => k_is)
    (case eca_NotAnEffect => k_is)
    (case ety_NotAnEffect => k_is)
    (case ekc_NotAnEffect => k_is)
    (case ei_NotAnEffect => k_is)
    (case l_NotAnEffect_init => k_is)
    (case c_NotAnEffect_init => k_is)
    (case k_NotAnEffect_init => k_is)
    (case et_NotAnEffect => k_is)
    (case nf_NotAnEffect => k_is)
    (case aC_CannotRevert => k_is)
    (case lx_CannotRevert => k_is)
    (case xcl_CannotRevert => exact ⟨_, _, _, _, _, _, _, _, _, _, _, _, _, _, rfl⟩)
    (case esa_CannotRevert => k_is)
    (case ega_CannotRevert => k_is)
    (case egg_CannotRevert => k_is)
    (case eca_CannotRevert => k_is)
    (case ety_CannotRevert => k_is)
    (case ekc_CannotRevert => k_is)
    (case ex_CannotRevert => k_exc)
    (case aC_Busy => k_is)
    (case lx_Busy => k_is)
    (case xcl_Busy => exact ⟨_, _, _, _, _, _, _, _, _, _, _, _, _, _, rfl⟩)
    (case esa_Busy => k_is)
    (case ega_Busy => k_is)
    (case egg_Busy => k_is)
    (case eca_Busy => k_is)
    (case ety_Busy => k_is)
    (case ekc_Busy => k_is)
    (case ex_Busy => k_exc)
    (case aC_TooManyDiscarded => k_is)
    (case lx_TooManyDiscarded => k_is)
    (case xcl_TooManyDiscarded => exact ⟨_, _, _, _, _, _, _, _, _, _, _, _, _, _, rfl⟩)
    (case esa_TooManyDiscarded => k_is)
    (case ega_TooManyDiscarded => k_is)
    (case egg_TooManyDiscarded => k_is)
    (case eca_TooManyDiscarded => k_is)
    (case ety_TooManyDiscarded => k_is)
    (case ekc_TooManyDiscarded => k_is)
    (case ei_TooManyDiscarded => k_is)
    (case l_TooManyDiscarded_init => k_is)
    (case c_TooManyDiscarded_init => k_is)
    (case k_TooManyDiscarded_init => k_is)
    (case et_TooManyDiscarded => k_is)
    (case nf_TooManyDiscarded => k_is)
    (case cg_hn => k_is)
    (case cg_ht => k_is)
    (case nd_err => decide)
    (case aC_History => k_is)
    (case pg_History => k_is)
    (case hd_History => k_is)
    (case po_History => k_is)
    (case sa_History => k_is)
    (case mk_History => k_is)
    (case kc_History => k_is)
    (case ia_History => k_is)
    (case in_History => k_is)
    (case it_History => k_is)
    (case im_History => k_is)
    (case kt_History_NoneType => kit_is)
    (case kt_History_int => kit_is)
    (case kt_History_bool => kit_is)
    (case kt_History_str => kit_is)
    (case kt_History_tuple => kit_is)
    (case kt_History_list => kit_is)
    (case kt_History_dict => kit_is)
    (case n_History_past => k_is)
    (case n_History_future => k_is)
    (case n_History___bool__ => k_is)
    (case ai_History_init => k_is)
    (case l_History_init => k_is)
    (case c_History_init => k_is)
    (case k_History_init => k_is)
    (case lT_History_init => k_is)
    (case oT_d_History_init => rfl)
    (case le0_History_init => k_is)
    (case ce0_History_init => rfl)
    (case de0_History_init => rfl)
    (case le1_History_init => k_is)
    (case ce1_History_init => rfl)
    (case de1_History_init => rfl)
    (case ii_History_init => k_is)
    (case qa_History_line => k_is)
    (case qr_History_line => k_is)
    (case l_History_line => k_is)
    (case c_History_line => k_is)
    (case k_History_line => k_is)
    (case qg_History_line => k_is)
    (case qt_History_line => k_is)
    (case me_History_do => k_is)
    (case l_History_do => k_is)
    (case c_History_do => k_is)
    (case k_History_do => k_is)
    (case mi_History_do => k_is)
    (case me_History_undo => k_is)
    (case l_History_undo => k_is)
    (case c_History_undo => k_is)
    (case k_History_undo => k_is)
    (case lT_History_undo => k_is)
    (case oT_d_History_undo => rfl)
    (case mi_History_undo => k_is)
    (case me_History_redo => k_is)
    (case l_History_redo => k_is)
    (case c_History_redo => k_is)
    (case k_History_redo => k_is)
    (case lT_History_redo => k_is)
    (case oT_d_History_redo => rfl)
    (case mi_History_redo => k_is)
    (case me_History_eq => k_is)
    (case l_History_eq => k_is)
    (case c_History_eq => k_is)
    (case k_History_eq => k_is)
    (case mi_History_eq => k_is)
    (case mn_History_eq => k_is)
    (case sa_History_of => k_is)
    (case sr_History_of => k_is)
    (case fn_History_of => k_is)
    (case rd_History => k_is)
    (case ga_History => k_is)
    (case l_History_of => k_is)
    (case c_History_of => k_is)
    (case k_History_of => k_is)
    (case me_History_len => k_is)
    (case l_History_len => k_is)
    (case c_History_len => k_is)
    (case k_History_len => k_is)
    (case mi_History_len => k_is)
